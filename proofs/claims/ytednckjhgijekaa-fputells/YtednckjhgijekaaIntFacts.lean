/- Whole numbers as words and back: what is had exactly, and halves that are cut. No program is named here. -/
import Derived.Test.YtednckjhgijekaaFacts
namespace Go.Proofs.Ytednckjhgijekaa
open Ieee
namespace Fp

/-- what lies below the greatest int is cut towards nought -/
theorem int_in {s : Bool} {r : Nat} (h : r < 4890909195324358656) : intN (mk s r) = (if s then -(tr r : Int) else tr r) ∧ intOk (mk s r) = true := by
  have hi : inf = 9218868437227405312 := rfl
  have hr : r < 9223372036854775808 := by omega
  have hs := sgn_mk s r hr
  have hg := rung_mk s r hr
  have hn : isNan (mk s r) = false := isNan_mk s (by omega)
  have hb : big (mk s r) = false := by
    unfold big key
    rw [hn, hs, hg]
    cases s <;> simp <;> omega
  have hl : low (mk s r) = false := by
    unfold low key
    rw [hn, hs, hg]
    cases s <;> simp <;> omega
  constructor
  · unfold intN strunc
    rw [hn, hb, hl, hs, hg]; rfl
  · unfold intOk
    rw [hn, hb, hl]; rfl

theorem int_val {s : Bool} {r m : Nat} (hv : val r = m * unit) (hm : m < 9223372036854775808) : intN (mk s r) = (if s then -(m : Int) else m) ∧ intOk (mk s r) = true := by
  have ht : tr r = m := by unfold tr; rw [hv, Nat.mul_div_cancel _ unit_pos]
  have := int_in (s := s) (below_top hv hm)
  rw [ht] at this
  exact this

theorem pow_unit (q : Nat) : 2 ^ ((q : Int) + 1074).toNat = 2 ^ q * unit := by
  have hp : pl = 1074 := rfl
  unfold unit
  rw [← Nat.pow_add]
  congr 1

theorem log2_le {n : Nat} (h : n < 9007199254740992) : n.log2 ≤ 52 := by
  by_cases hn : n = 0
  · subst hn; decide
  · have a := Nat.log2_self_le hn
    by_cases c : n.log2 ≤ 52
    · exact c
    · exfalso
      have : 2 ^ 53 ≤ 2 ^ n.log2 := Nat.pow_le_pow_right (by decide) (by omega)
      have e : (2 : Nat) ^ 53 = 9007199254740992 := by decide
      omega

theorem near_int {n : Nat} (hn : n ≠ 0) (h : n ≤ 9007199254740992) : val (near n 0) = n * unit := by
  by_cases c : n = 9007199254740992
  · have := (near_val (n := 1) (by decide) (by decide) 53 53 (by decide) (by decide)).2
    rw [show ((53 : Int) - ((53 : Nat) : Int)) = 0 by decide, show 1 * 2 ^ 53 = 9007199254740992 by decide] at this
    rw [c, this, show ((53 : Int)) = ((53 : Nat) : Int) from rfl, pow_unit, Nat.one_mul]
  · have := (near_val hn (log2_le (by omega)) 0 0 (by decide) (by decide)).2
    rw [Nat.pow_zero, Nat.mul_one, show ((0 : Int) - ((0 : Nat) : Int)) = 0 by decide] at this
    rw [this, show ((0 : Int)) = ((0 : Nat) : Int) from rfl, pow_unit, Nat.pow_zero, Nat.one_mul]

theorem of_val {k : Int} (h1 : -9007199254740992 ≤ k) (h2 : k ≤ 9007199254740992) : val (near k.natAbs 0) = k.natAbs * unit := by
  by_cases c : k = 0
  · subst c
    rw [show Int.natAbs 0 = 0 from rfl, near_zero, val_zero, Nat.zero_mul]
  · exact near_int (by omega) (by omega)

/-- a whole number that a float has comes back -/
theorem of_back {k : Int} (h1 : -9007199254740992 ≤ k) (h2 : k ≤ 9007199254740992) : intN (ofF k) = k ∧ intOk (ofF k) = true := by
  have := int_val (s := decide (k < 0)) (of_val h1 h2) (by omega)
  unfold ofF
  refine ⟨this.1.trans ?_, this.2⟩
  by_cases c : k < 0
  · rw [decide_eq_true c]; simp only [if_true]; omega
  · rw [decide_eq_false c]; simp only [Bool.false_eq_true, if_false]; omega

def pl2 : Nat := 1073
def hunit : Nat := 2 ^ pl2
theorem unit_half : unit = 2 * hunit := by
  have h1 : pl = pl2 + 1 := rfl
  unfold unit hunit
  rw [h1, Nat.pow_succ, Nat.mul_comm]
theorem hunit_pos : 0 < hunit := Nat.two_pow_pos pl2

def pl3 : Nat := 1021
theorem sval_half : sval 4602678819172646912 = (hunit : Int) := by
  have e1 : ex (rung 4602678819172646912) = pl3 := by decide
  have e2 : mant (rung 4602678819172646912) = 2 ^ 52 := by decide
  have e3 : sgn 4602678819172646912 = false := by decide
  unfold sval val
  rw [e1, e2, e3, ← Nat.pow_add, show 52 + pl3 = pl2 from rfl]
  unfold hunit
  simp only [Bool.false_eq_true, if_false]

theorem sval_of {k : Int} (h1 : -9007199254740992 ≤ k) (h2 : k ≤ 9007199254740992) : sval (ofF k) = k * (unit : Int) := by
  unfold sval ofF
  rw [sgn_mk _ _ (near_lt _ _), rung_mk _ _ (near_lt _ _), of_val h1 h2]
  by_cases c : k < 0
  · rw [decide_eq_true c]
    simp only [if_true]
    rw [Int.natCast_mul, ← Int.neg_mul]
    congr 1
    omega
  · rw [decide_eq_false c]
    simp only [Bool.false_eq_true, if_false]
    rw [Int.natCast_mul]
    congr 1
    omega

theorem of_fin {k : Int} (h1 : -9007199254740992 ≤ k) (h2 : k ≤ 9007199254740992) : rung (ofF k) < inf := by
  have hi : inf = 9218868437227405312 := rfl
  unfold ofF
  rw [rung_mk _ _ (near_lt _ _)]
  have := below_top (of_val h1 h2) (by omega)
  omega

/-- an odd number of halves is what it is only at the place of halves, or below -/
theorem odd_place {t n e : Nat} (hn : n % 2 = 1) (h : t * 2 ^ e = n * 2 ^ pl2) : e ≤ pl2 ∧ t = n * 2 ^ (pl2 - e) := by
  by_cases c : e ≤ pl2
  · refine ⟨c, ?_⟩
    have hs : 2 ^ pl2 = 2 ^ (pl2 - e) * 2 ^ e := by rw [← Nat.pow_add]; congr 1; omega
    rw [hs, ← Nat.mul_assoc] at h
    exact Nat.eq_of_mul_eq_mul_right (Nat.two_pow_pos e) h
  · exfalso
    have hs : 2 ^ e = 2 ^ (e - pl2 - 1) * 2 * 2 ^ pl2 := by
      rw [← Nat.pow_succ, ← Nat.pow_add]; congr 1; omega
    rw [hs, ← Nat.mul_assoc] at h
    have h2 := Nat.eq_of_mul_eq_mul_right (Nat.two_pow_pos pl2) h
    rw [← Nat.mul_assoc] at h2
    omega

theorem half_back {k : Int} (h1 : -1099511627776 ≤ k) (h2 : k ≤ 1099511627776) : intN (opF 1 (ofF k) 4602678819172646912) = (if k < 0 then k + 1 else k) ∧ intOk (opF 1 (ofF k) 4602678819172646912) = true := by
  have hfin := @of_fin k (by omega) (by omega)
  obtain ⟨t, base, hb, e, hv⟩ := add_fin hfin (show rung 4602678819172646912 < inf by decide)
  rw [sval_of (by omega) (by omega), sval_half, unit_half] at hv
  have hv2 : t * ((2 ^ (base + 1074).toNat : Nat) : Int) = (2 * k + 1) * (hunit : Int) := by
    rw [hv, Int.natCast_mul, Int.add_mul, ← Int.mul_assoc, Int.mul_comm k, Int.one_mul]; rfl
  have hn : t.natAbs * 2 ^ (base + 1074).toNat = (2 * k + 1).natAbs * 2 ^ pl2 := by
    have := congrArg Int.natAbs hv2
    rw [Int.natAbs_mul, Int.natAbs_mul, Int.natAbs_natCast, Int.natAbs_natCast] at this
    exact this
  obtain ⟨he, ht⟩ := odd_place (by omega) hn
  have hp2 : pl2 = 1073 := rfl
  have hplace : base = (-1 : Int) - ((pl2 - (base + 1074).toNat : Nat) : Int) := by omega
  have hne : (2 * k + 1).natAbs ≠ 0 := by omega
  have hnv := near_val hne (log2_le (by omega)) (pl2 - (base + 1074).toNat) (-1) (by decide) (by decide)
  rw [← ht, ← hplace] at hnv
  have e5 : ((-1 : Int) + 1074).toNat = pl2 := rfl
  rw [e5] at hnv
  have hval : val (near t.natAbs base) = (2 * k + 1).natAbs * hunit := by unfold hunit; exact hnv.2
  have hr : near t.natAbs base < 4890909195324358656 := by
    by_cases c : near t.natAbs base < 4890909195324358656
    · exact c
    · exfalso
      have hle : val 4890909195324358656 ≤ val (near t.natAbs base) := by
        by_cases c2 : near t.natAbs base = 4890909195324358656
        · rw [c2]; exact Nat.le_refl _
        · exact Nat.le_of_lt (val_lt (by omega))
      rw [val_top, hval, unit_half, ← Nat.mul_assoc] at hle
      have := Nat.le_of_mul_le_mul_right hle hunit_pos
      omega
  have htr : tr (near t.natAbs base) = (2 * k + 1).natAbs / 2 := by
    unfold tr
    rw [hval, unit_half, Nat.mul_div_mul_right _ _ hunit_pos]
  have hpos : (0 : Int) < ((2 ^ (base + 1074).toNat : Nat) : Int) := by
    have := Nat.two_pow_pos (base + 1074).toNat; omega
  have hhu : (0 : Int) < (hunit : Int) := by have := hunit_pos; omega
  have ht0 : t ≠ 0 := by
    intro h0
    rw [h0] at ht
    have := Nat.mul_eq_zero.1 ht.symm
    have h3 := Nat.two_pow_pos (pl2 - (base + 1074).toNat)
    omega
  have hsg : t < 0 ↔ k < 0 := by
    constructor
    · intro h
      have h3 := Int.mul_neg_of_neg_of_pos h hpos
      rw [hv2] at h3
      by_cases c : k < 0
      · exact c
      · exfalso
        have h4 := Int.mul_nonneg (show (0 : Int) ≤ 2 * k + 1 by omega) (Int.le_of_lt hhu)
        omega
    · intro h
      have h3 := Int.mul_neg_of_neg_of_pos (show 2 * k + 1 < 0 by omega) hhu
      rw [← hv2] at h3
      by_cases c : t < 0
      · exact c
      · exfalso
        have h4 := Int.mul_nonneg (show (0 : Int) ≤ t by omega) (Int.le_of_lt hpos)
        omega
  have hop : opF 1 (ofF k) 4602678819172646912 = mk (decide (t < 0)) (near t.natAbs base) := by
    rw [op_add, e, if_neg ht0]; rfl
  rw [hop]
  have hI := int_in (s := decide (t < 0)) hr
  refine ⟨hI.1.trans ?_, hI.2⟩
  rw [htr]
  by_cases c : k < 0
  · rw [decide_eq_true (hsg.2 c), if_pos rfl, if_pos c]; omega
  · rw [decide_eq_false (fun h => c (hsg.1 h)), if_neg (by decide), if_neg c]; omega

end Fp
end Go.Proofs.Ytednckjhgijekaa
