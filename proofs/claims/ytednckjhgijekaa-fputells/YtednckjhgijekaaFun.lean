/- What the functions of package fpu answer, as plain functions on words, and what follows of these answers. No program is named here. -/
import Derived.Test.YtednckjhgijekaaIeee
namespace Go.Proofs.Ytednckjhgijekaa
open Ieee
namespace Fp

def kindF (x : Nat) : Int := if isNan x then 1 else if rung x = inf then 2 else if rung x = 0 then 3 else if rung x < 4503599627370496 then 4 else 5
def cleanF (x : Nat) : Nat := if isNan x then nanW else x
def cmpF (x y : Nat) : Int := if ltB x y then -1 else if ltB y x then 1 else if eqB x y then 0 else 2
def nay (a b : Bool) : Int := if a = b then 0 else if b then -1 else 1
def orderF (x y : Nat) : Int := if cmpF x y = 2 then nay (isNan x) (isNan y) else if cmpF x y = 0 then nay (!sgn x) (!sgn y) else cmpF x y
def firstF (a b : Nat) : Nat := if orderF a b ≤ 0 then a else b
def lastF (a b : Nat) : Nat := if isNan a then b else if isNan b then a else if 0 ≤ orderF a b then a else b
def opF (k : Int) (a b : Nat) : Nat :=
  if k = 1 then (double.add a b).getD nanW
  else if k = 2 then (double.sub a b).getD nanW
  else if k = 3 then (double.mul a b).getD nanW
  else if k = 4 then (double.div a b).getD nanW
  else if k = 5 then cleanF (firstF a b)
  else if k = 6 then cleanF (lastF a b)
  else nanW
def big (x : Nat) : Bool := !isNan x && decide (4890909195324358656 ≤ key x)
def low (x : Nat) : Bool := !isNan x && decide (key x < -4890909195324358656)
def strunc (x : Nat) : Int := if sgn x then -(tr (rung x) : Int) else tr (rung x)
def intN (x : Nat) : Int := if isNan x then 0 else if big x then 9223372036854775807 else if low x then -9223372036854775808 else strunc x
def intOk (x : Nat) : Bool := !isNan x && !big x && !low x
def ofF (n : Int) : Nat := mk (decide (n < 0)) (near n.natAbs 0)

/-- the total order's key -/
def okey (x : Nat) : Int := if isNan x then 9223372036854775808 else if sgn x then -(rung x : Int) - 1 else rung x
def cmp3 (u v : Int) : Int := if u < v then -1 else if v < u then 1 else 0

theorem cmpF_nan {x y : Nat} (h : isNan x = true ∨ isNan y = true) : cmpF x y = 2 := by
  have : num2 x y = false ∧ num2 y x = false := by
    unfold num2; rcases h with h | h <;> rw [h] <;> simp
  unfold cmpF ltB eqB
  rw [this.1, this.2]; simp

theorem cmpF_num {x y : Nat} (hx : isNan x = false) (hy : isNan y = false) : cmpF x y = cmp3 (key x) (key y) := by
  have : num2 x y = true ∧ num2 y x = true := by unfold num2; rw [hx, hy]; simp
  unfold cmpF ltB eqB cmp3
  rw [this.1, this.2]
  simp only [Bool.true_and, decide_eq_true_eq]
  split
  · rfl
  · split
    · rfl
    · rw [if_pos (by omega)]

theorem cmp3_range (u v : Int) : cmp3 u v = -1 ∧ u < v ∨ cmp3 u v = 0 ∧ u = v ∨ cmp3 u v = 1 ∧ v < u := by
  unfold cmp3
  split
  · simp [*]
  · split
    · simp [*]
    · refine Or.inr (Or.inl ⟨rfl, by omega⟩)

theorem rung_inf {x : Nat} (h : isNan x = false) : rung x ≤ inf := by
  unfold isNan at h; simpa using h

theorem orderF_eq (x y : Nat) : orderF x y = cmp3 (okey x) (okey y) := by
  have hi := inf_lt
  unfold orderF
  cases hx : isNan x <;> cases hy : isNan y
  · have rx := rung_inf hx
    have ry := rung_inf hy
    rw [cmpF_num hx hy]
    unfold okey
    rw [hx, hy]
    simp only [Bool.false_eq_true, if_false]
    rcases cmp3_range (key x) (key y) with ⟨c, d⟩ | ⟨c, d⟩ | ⟨c, d⟩ <;> rw [c]
    · rw [if_neg (by omega), if_neg (by omega)]
      unfold key at d
      unfold cmp3
      cases hs : sgn x <;> cases ht : sgn y <;> simp only [hs, ht, Bool.false_eq_true, if_false, if_true] at d ⊢ <;> rw [if_pos (by omega)]
    · rw [if_neg (by omega), if_pos rfl]
      unfold key at d
      unfold cmp3
      cases hs : sgn x <;> cases ht : sgn y <;> simp only [hs, ht, Bool.false_eq_true, if_false, if_true] at d ⊢
      · rw [if_neg (by omega), if_neg (by omega)]; rfl
      · rw [if_neg (by omega), if_pos (by omega)]; rfl
      · rw [if_pos (by omega)]; rfl
      · rw [if_neg (by omega), if_neg (by omega)]; rfl
    · rw [if_neg (by omega), if_neg (by omega)]
      unfold key at d
      unfold cmp3
      cases hs : sgn x <;> cases ht : sgn y <;> simp only [hs, ht, Bool.false_eq_true, if_false, if_true] at d ⊢ <;> rw [if_neg (by omega), if_pos (by omega)]
  · rw [cmpF_nan (Or.inr hy), if_pos rfl]
    have rx := rung_inf hx
    unfold okey cmp3
    rw [hx, hy]
    simp only [Bool.false_eq_true, if_false, if_true]
    rw [if_pos]
    · rfl
    · split <;> omega
  · rw [cmpF_nan (Or.inl hx), if_pos rfl]
    have ry := rung_inf hy
    unfold okey cmp3
    rw [hx, hy]
    simp only [Bool.false_eq_true, if_false, if_true]
    rw [if_neg, if_pos]
    · rfl
    · split <;> omega
    · split <;> omega
  · rw [cmpF_nan (Or.inr hy), if_pos rfl]
    unfold okey cmp3
    rw [hx, hy]; rfl

/-- equal in the order: the same, but for NaNs -/
theorem okey_inj {x y : Nat} (hx : x < 18446744073709551616) (hy : y < 18446744073709551616) : okey x = okey y ↔ cleanF x = cleanF y := by
  have hi := inf_lt
  have hnn : isNan nanW = true := by decide
  unfold okey cleanF
  cases h1 : isNan x <;> cases h2 : isNan y
  · have rx := rung_inf h1
    have ry := rung_inf h2
    simp only [Bool.false_eq_true, if_false]
    constructor
    · intro h
      rw [← mk_of x hx, ← mk_of y hy]
      cases hs : sgn x <;> cases ht : sgn y <;> simp only [hs, ht, Bool.false_eq_true, if_false, if_true] at h ⊢
      · rw [show rung x = rung y by omega]
      · omega
      · omega
      · rw [show rung x = rung y by omega]
    · intro h; rw [h]
  · have rx := rung_inf h1
    simp only [Bool.false_eq_true, if_false, if_true]
    constructor
    · intro h; exfalso; revert h; split <;> omega
    · intro h; rw [h, hnn] at h1; cases h1
  · have ry := rung_inf h2
    simp only [Bool.false_eq_true, if_false, if_true]
    constructor
    · intro h; exfalso; revert h; split <;> omega
    · intro h; rw [← h, hnn] at h2; cases h2
  · simp

theorem isNan_clean (x : Nat) : isNan (cleanF x) = isNan x := by
  unfold cleanF
  cases h : isNan x
  · simp [h]
  · simp only [if_true]; decide
theorem clean_num {x : Nat} (h : isNan x = false) : cleanF x = x := by unfold cleanF; rw [h]; rfl
theorem clean_nan {x : Nat} (h : isNan x = true) : cleanF x = nanW := by unfold cleanF; rw [h]; rfl
theorem clean_lt {x : Nat} (h : x < 18446744073709551616) : cleanF x < 18446744073709551616 := by
  unfold cleanF; split
  · decide
  · exact h

/-- an arithmetic result is a number, or the one NaN -/
theorem res_cases (o : Option Nat) (h : o = none ∨ ∃ s r, r ≤ inf ∧ o = some (mk s r)) : (o.getD nanW < 18446744073709551616) ∧ (∀ r, o = some r → isNan r = false) := by
  rcases h with rfl | ⟨s, r, hr, rfl⟩
  · exact ⟨by decide, by intro r h; cases h⟩
  · refine ⟨mk_lt _ _ (Nat.lt_of_le_of_lt hr inf_lt), ?_⟩
    intro r' h; cases h; exact isNan_mk _ hr
theorem add_res (a b : Nat) : double.add a b = none ∨ ∃ s r, r ≤ inf ∧ double.add a b = some (mk s r) := by
  rcases add_cases a b with h | ⟨s, r, h, e, _⟩
  · exact Or.inl h.1
  · exact Or.inr ⟨s, r, h, e⟩
theorem sub_res (a b : Nat) : double.sub a b = none ∨ ∃ s r, r ≤ inf ∧ double.sub a b = some (mk s r) := by
  rcases sub_cases a b with h | ⟨s, r, h, e, _⟩
  · exact Or.inl h.1
  · exact Or.inr ⟨s, r, h, e⟩
theorem mul_res (a b : Nat) : double.mul a b = none ∨ ∃ s r, r ≤ inf ∧ double.mul a b = some (mk s r) := by
  rcases mul_cases a b with h | ⟨r, h, e, _⟩
  · exact Or.inl h.1
  · exact Or.inr ⟨_, r, h, e⟩
theorem div_res (a b : Nat) : double.div a b = none ∨ ∃ s r, r ≤ inf ∧ double.div a b = some (mk s r) := by
  rcases div_cases a b with h | ⟨r, h, e, _⟩
  · exact Or.inl h.1
  · exact Or.inr ⟨_, r, h, e⟩

theorem firstF_lt {a b : Nat} (ha : a < 18446744073709551616) (hb : b < 18446744073709551616) : firstF a b < 18446744073709551616 := by
  unfold firstF; split <;> assumption
theorem lastF_lt {a b : Nat} (ha : a < 18446744073709551616) (hb : b < 18446744073709551616) : lastF a b < 18446744073709551616 := by
  unfold lastF; split
  · assumption
  · split
    · assumption
    · split <;> assumption
theorem opF_lt (k : Int) {a b : Nat} (ha : a < 18446744073709551616) (hb : b < 18446744073709551616) : opF k a b < 18446744073709551616 := by
  unfold opF
  split
  · exact (res_cases _ (add_res a b)).1
  · split
    · exact (res_cases _ (sub_res a b)).1
    · split
      · exact (res_cases _ (mul_res a b)).1
      · split
        · exact (res_cases _ (div_res a b)).1
        · split
          · exact clean_lt (firstF_lt ha hb)
          · split
            · exact clean_lt (lastF_lt ha hb)
            · decide
theorem ofF_lt (n : Int) : ofF n < 18446744073709551616 := mk_lt _ _ (near_lt _ _)

end Fp
end Go.Proofs.Ytednckjhgijekaa
