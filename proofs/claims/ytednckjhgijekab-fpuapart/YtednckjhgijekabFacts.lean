/- What follows of the answers of package fpu: the facts that the statements of layer 1 ask for, on plain words. No program is named here. -/
import Derived.Test.YtednckjhgijekabFun
namespace Go.Proofs.Ytednckjhgijekab
open Ieee
namespace Fp

theorem kind_nan {x : Nat} : kindF x = 1 ↔ isNan x = true := by
  unfold kindF
  cases isNan x
  · simp only [Bool.false_eq_true, if_false, iff_false]
    split
    · decide
    · split
      · decide
      · split <;> decide
  · simp
theorem kind_is_inf {x : Nat} : kindF x = 2 ↔ rung x = inf := by
  unfold kindF
  cases h : isNan x
  · simp only [Bool.false_eq_true, if_false]
    by_cases c : rung x = inf
    · simp [c]
    · rw [if_neg c]
      simp only [c, iff_false]
      split
      · decide
      · split <;> decide
  · simp only [if_true]
    unfold isNan at h
    simp only [decide_eq_true_eq] at h
    constructor
    · intro h'; exact absurd h' (by decide)
    · intro h'; omega
theorem kind_is_zero {x : Nat} : kindF x = 3 ↔ rung x = 0 := by
  have hi : inf ≠ 0 := by decide
  unfold kindF
  cases h : isNan x
  · simp only [Bool.false_eq_true, if_false]
    by_cases c : rung x = inf
    · rw [if_pos c, c]
      constructor
      · intro h'; exact absurd h' (by decide)
      · intro h'; exact absurd h' hi
    · rw [if_neg c]
      by_cases d : rung x = 0
      · rw [if_pos d]; simp [d]
      · rw [if_neg d]
        simp only [d, iff_false]
        split <;> decide
  · simp only [if_true]
    unfold isNan at h
    simp only [decide_eq_true_eq] at h
    constructor
    · intro h'; exact absurd h' (by decide)
    · intro h'; omega
theorem kind_is_sub {x : Nat} : kindF x = 4 ↔ rung x ≠ 0 ∧ rung x < 4503599627370496 := by
  have hi : inf = 9218868437227405312 := by decide
  unfold kindF
  cases h : isNan x
  · simp only [Bool.false_eq_true, if_false]
    by_cases c : rung x = inf
    · rw [if_pos c, c]
      constructor
      · intro h'; exact absurd h' (by decide)
      · intro h'; omega
    · rw [if_neg c]
      by_cases d : rung x = 0
      · rw [if_pos d]; simp [d]
      · rw [if_neg d]
        by_cases e : rung x < 4503599627370496
        · rw [if_pos e]; simp [d, e]
        · rw [if_neg e]; simp [d, e]
  · simp only [if_true]
    unfold isNan at h
    simp only [decide_eq_true_eq] at h
    constructor
    · intro h'; exact absurd h' (by decide)
    · intro h'; omega

theorem op_add (a b : Nat) : opF 1 a b = (double.add a b).getD nanW := rfl
theorem op_sub (a b : Nat) : opF 2 a b = (double.sub a b).getD nanW := rfl
theorem op_mul (a b : Nat) : opF 3 a b = (double.mul a b).getD nanW := rfl
theorem op_div (a b : Nat) : opF 4 a b = (double.div a b).getD nanW := rfl
theorem op_add_comm (a b : Nat) : opF 1 b a = opF 1 a b := by rw [op_add, op_add, add_comm]
theorem op_mul_comm (a b : Nat) : opF 3 b a = opF 3 a b := by rw [op_mul, op_mul, mul_comm]

theorem fin_of {x : Nat} (h1 : isNan x = false) (h2 : rung x ≠ inf) : rung x < inf := by
  have := rung_inf h1; omega

/-- a difference of finite ones stands to nought as they stand to each other -/
theorem sub_sign {a b : Nat} (ha : rung a < inf) (hb : rung b < inf) : cmpF (opF 2 a b) 0 = cmpF a b := by
  obtain ⟨t, base, hbase, e, hv⟩ := sub_fin ha hb
  rw [op_sub, e]
  simp only [Option.getD_some]
  have na : isNan a = false := by unfold isNan; simp; omega
  have nb : isNan b = false := by unfold isNan; simp; omega
  have nd : ∀ s, isNan (mk s (near t.natAbs base)) = false := fun s => isNan_mk s (near_le _ _)
  rw [cmpF_num (nd _) (by decide), cmpF_num na nb]
  have hk0 : key 0 = 0 := by decide
  have kd : ∀ s, key (mk s (near t.natAbs base)) = if s then -(near t.natAbs base : Int) else near t.natAbs base := by
    intro s; unfold key; rw [sgn_mk _ _ (near_lt _ _), rung_mk _ _ (near_lt _ _)]
  have hp : (0 : Int) < ((2 ^ (base + 1074).toNat : Nat) : Int) := by
    have := Nat.two_pow_pos (base + 1074).toNat; omega
  have hc := compare_sval a b
  rw [hk0, kd]
  rcases Int.lt_trichotomy t 0 with c | c | c
  · have hn : near t.natAbs base ≠ 0 := near_pos (by omega) hbase
    have hs : sval a < sval b := by
      have := Int.mul_neg_of_neg_of_pos c hp
      omega
    rw [Int.compare_eq_lt.2 hs] at hc
    have hk := Int.compare_eq_lt.1 hc.symm
    have hsx : (if t = 0 then sgn a && !sgn b else decide (t < 0)) = true := by rw [if_neg (show ¬ t = 0 by omega)]; simpa using c
    rw [hsx]
    simp only [if_true]
    unfold cmp3
    rw [if_pos (by omega), if_pos hk]
  · subst c
    have hs : sval a = sval b := by
      rw [Int.zero_mul] at hv; omega
    rw [Int.compare_eq_eq.2 hs] at hc
    have hk := Int.compare_eq_eq.1 hc.symm
    have : near (Int.natAbs 0) base = 0 := near_zero base
    rw [this]
    unfold cmp3
    rw [hk]
    simp
  · have hn : near t.natAbs base ≠ 0 := near_pos (by omega) hbase
    have hs : sval b < sval a := by
      have := Int.mul_pos c hp
      omega
    rw [Int.compare_eq_gt.2 hs] at hc
    have hk := Int.compare_eq_gt.1 hc.symm
    have hsx : (if t = 0 then sgn a && !sgn b else decide (t < 0)) = false := by rw [if_neg (show ¬ t = 0 by omega)]; simp; omega
    rw [hsx]
    simp only [Bool.false_eq_true, if_false]
    unfold cmp3
    rw [if_neg (by omega), if_pos (by omega), if_neg (by omega), if_pos hk]

end Fp
end Go.Proofs.Ytednckjhgijekab
