/- What a half is: how the word of a finite float changes when it is multiplied by a half, and how often that can be done ahead of nought. No program is named here. -/
import Derived.Test.YtednckjhgijekaaFacts
namespace Go.Proofs.Ytednckjhgijekaa
open Ieee
namespace Fp

def halve (r : Nat) : Nat := if r < 9007199254740992 then r / 2 + (if r % 2 = 1 ∧ r / 2 % 2 = 1 then 1 else 0) else r - 4503599627370496

theorem log2_full {m : Nat} (h1 : 4503599627370496 ≤ m) (h2 : m < 9007199254740992) : m.log2 = 52 := by
  refine (Nat.log2_eq_iff (by omega)).2 ⟨?_, ?_⟩
  · exact h1
  · exact h2

theorem near_half {r : Nat} (h : r < inf) : near (mant r * 4503599627370496) (-1074 + (ex r : Nat) + (-1074 + 1021)) = halve r := by
  have hi : inf = 9218868437227405312 := rfl
  unfold halve
  by_cases c : r < 9007199254740992
  · rw [if_pos c, (mant_sub c).1, (mant_sub c).2]
    by_cases h0 : r = 0
    · subst h0
      rw [Nat.zero_mul, near_zero]; rfl
    · have hne : r * 4503599627370496 ≠ 0 := by omega
      have hl : (r * 4503599627370496).log2 = r.log2 + 52 := log2_mul_pow h0 52
      have hr : r.log2 ≤ 52 := by
        by_cases d : r.log2 ≤ 52
        · exact d
        · exfalso
          have a := Nat.log2_self_le h0
          have : 2 ^ 53 ≤ 2 ^ r.log2 := Nat.pow_le_pow_right (by decide) (by omega)
          have e : (2 : Nat) ^ 53 = 9007199254740992 := by decide
          omega
      unfold near
      rw [if_neg hne, hl]
      have e1 : max (-1074 + ((0 : Nat) : Int) + (-1074 + 1021) + ((r.log2 + 52 : Nat) : Int) - 52) (-1074) = -1074 := by omega
      rw [e1]
      have e2 : ((-1074 : Int) - -1074).toNat = 0 := by decide
      have e3 : (-1074 + ((0 : Nat) : Int) + (-1074 + 1021) - -1074).toNat = 0 := by decide
      have e4 : (-1074 - (-1074 + ((0 : Nat) : Int) + (-1074 + 1021))).toNat = 53 := by decide
      rw [e2, e3, e4, Nat.zero_mul, Nat.zero_add, Nat.shiftLeft_zero]
      have hcut : Toward.even.cut false (r * 4503599627370496) 53 = r / 2 + (if r % 2 = 1 ∧ r / 2 % 2 = 1 then 1 else 0) := by
        unfold Toward.cut
        rw [hl, Nat.min_eq_left (by omega), show 1 <<< 53 = 9007199254740992 by decide]
        have d1 : r * 4503599627370496 / 9007199254740992 = r / 2 := by omega
        have d2 : r * 4503599627370496 % 9007199254740992 = r % 2 * 4503599627370496 := by omega
        simp only [d1, d2]
        have hm : r % 2 = 0 ∨ r % 2 = 1 := by omega
        have hq : r / 2 % 2 = 0 ∨ r / 2 % 2 = 1 := by omega
        rcases hm with hm | hm <;> rcases hq with hq | hq <;> rw [hm, hq] <;> rfl
      rw [hcut]
      refine Nat.min_eq_left ?_
      rw [hi]
      split <;> omega
  · rw [if_neg c]
    have m := mant_lo (show 4503599627370496 ≤ r by omega)
    have hl := log2_full m.1 m.2
    have hex : 1 ≤ ex r := by unfold ex; omega
    have hne : mant r ≠ 0 := by omega
    have := near_exact hne (by omega) 52 ((ex r : Int) - 1075) (by omega)
    rw [hl] at this
    have e1 : ((ex r : Int) - 1075 - ((52 : Nat) : Int)) = -1074 + ((ex r : Nat) : Int) + (-1074 + 1021) := by omega
    rw [e1, show 2 ^ 52 = 4503599627370496 by decide] at this
    rw [this]
    have e2 : ((ex r : Int) - 1075 + ((52 : Nat) : Int) - 52 + 1074).toNat = ex r - 1 := by omega
    rw [e2, show 52 - 52 = 0 by decide, Nat.pow_zero, Nat.mul_one]
    have hle := ex_le r
    have hm2 : mant r = r - ex r * 4503599627370496 := rfl
    have : (ex r - 1) * 4503599627370496 + mant r = r - 4503599627370496 := by
      rw [hm2, Nat.sub_mul]
      omega
    rw [this]
    refine Nat.min_eq_left ?_
    omega

theorem mul_half {s : Bool} {r : Nat} (h : r < inf) : opF 3 (mk s r) 4602678819172646912 = mk s (halve r) := by
  have hi := inf_lt
  have hr : r < 9223372036854775808 := by omega
  have hs := sgn_mk s r hr
  have hg := rung_mk s r hr
  rw [op_mul, mul_fin (by rw [hg]; exact h) (show rung 4602678819172646912 < inf by decide), hs, hg]
  simp only [Option.getD_some]
  rw [show sgn 4602678819172646912 = false by decide, Bool.xor_false]
  have e1 : mant (rung 4602678819172646912) = 4503599627370496 := by decide
  have e2 : ex (rung 4602678819172646912) = 1021 := by decide
  rw [e1, e2]
  congr 1
  exact near_half h

theorem mul_half_inf {y : Nat} (hy : y < 18446744073709551616) (h : rung y = inf) : opF 3 y 4602678819172646912 = y := by
  rw [op_mul]
  unfold Format.mul
  rw [read_inf h, read_fin (show rung 4602678819172646912 < inf by decide)]
  have e1 : mant (rung 4602678819172646912) = 4503599627370496 := by decide
  have e3 : sgn 4602678819172646912 = false := by decide
  rw [e1, e3]
  simp only [Datum.product]
  rw [if_neg (by decide), Bool.xor_false]
  simp only [Option.map_some, Format.write, Option.getD_some]
  rw [word_eq, infRung, ← mk_of y hy, h, sgn_mk _ _ inf_lt]
  rfl

theorem halve_lt {r : Nat} (h : r ≠ 0) : halve r < r := by
  unfold halve
  split
  · split <;> omega
  · omega
theorem halve_le (r : Nat) : halve r ≤ r := by
  by_cases h : r = 0
  · subst h; decide
  · exact Nat.le_of_lt (halve_lt h)

/-- how great what is left may be, so many halves ahead of nought -/
def bnd (k : Nat) : Nat := if k = 0 then 0 else if k ≤ 54 then 2 ^ (k - 1) else (k - 52) * 4503599627370496

theorem bnd_step {r k : Nat} (h : r ≤ bnd k) (h0 : r ≠ 0) : ∃ j, k = j + 1 ∧ halve r ≤ bnd j := by
  unfold bnd at h
  by_cases hk : k = 0
  · rw [if_pos hk] at h; omega
  · rw [if_neg hk] at h
    refine ⟨k - 1, by omega, ?_⟩
    unfold bnd
    by_cases hk1 : k - 1 = 0
    · have : k = 1 := by omega
      subst this
      rw [if_pos (by decide)] at h
      rw [if_pos (by decide)]
      have : r = 1 := by
        have e : (2 : Nat) ^ (1 - 1) = 1 := by decide
        omega
      subst this; decide
    · rw [if_neg hk1]
      by_cases hk2 : k ≤ 54
      · rw [if_pos hk2] at h
        rw [if_pos (by omega)]
        have hp : 2 ^ (k - 1) = 2 * 2 ^ (k - 1 - 1) := by
          rw [Nat.mul_comm, ← Nat.pow_succ]; congr 1; omega
        have hq : 1 ≤ 2 ^ (k - 1 - 1) := Nat.two_pow_pos _
        have hb : 2 ^ (k - 1) ≤ 2 ^ 53 := Nat.pow_le_pow_right (by decide) (by omega)
        have e : (2 : Nat) ^ 53 = 9007199254740992 := by decide
        rw [e] at hb
        rw [hp] at h
        generalize 2 ^ (k - 1 - 1) = q at *
        unfold halve
        split
        · split <;> omega
        · omega
      · rw [if_neg hk2] at h
        by_cases hk3 : k - 1 ≤ 54
        · have : k = 55 := by omega
          subst this
          rw [if_pos (by decide)]
          have e : (2 : Nat) ^ (55 - 1 - 1) = 9007199254740992 := by decide
          rw [e]
          unfold halve
          split
          · split <;> omega
          · omega
        · rw [if_neg hk3]
          unfold halve
          split
          · split <;> omega
          · omega

theorem bnd_top {r : Nat} (h : r < inf) : r ≤ bnd 2099 := by
  have hi : inf = 9218868437227405312 := rfl
  have hb : bnd 2099 = 2047 * 4503599627370496 := by decide
  rw [hb]; omega

/-- what is not nought is not halved to nought but out of the denormals -/
theorem halve_normal {r : Nat} (h : 4503599627370496 ≤ r) : halve r ≠ 0 := by
  unfold halve
  split
  · omega
  · omega

theorem order_halve {r : Nat} (h : r < inf) (h0 : r ≠ 0) : orderF (halve r) r = -1 := by
  have hi := inf_lt
  have hl := halve_lt h0
  have ok : ∀ x, x < inf → okey x = x := by
    intro x hx
    have hm : mk false x = x := rfl
    have hx2 : x < 9223372036854775808 := by omega
    have h1 := sgn_mk false x hx2
    have h2 := rung_mk false x hx2
    rw [hm] at h1 h2
    have h3 : isNan x = false := by unfold isNan; rw [h2]; simp; omega
    unfold okey
    rw [h3, h1, h2]; rfl
  rw [orderF_eq, ok _ (by omega), ok _ h]
  unfold cmp3
  rw [if_pos (by omega)]

end Fp
end Go.Proofs.Ytednckjhgijekaa
