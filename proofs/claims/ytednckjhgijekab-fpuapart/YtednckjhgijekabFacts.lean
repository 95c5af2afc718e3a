/- What follows of the answers of package fpu: the facts that the statements of layer 1 ask for, on plain words. No program is named here. -/
import Derived.Test.YtednckjhgijekabFun
namespace Go.Proofs.Ytednckjhgijekab
open Ieee
namespace Fp

theorem kind_nan {x : Nat} : kindF x = 1 ↔ isNan x = true := by
  unfold kindF
  cases isNan x
  · simp only [Bool.false_eq_true, if_false, iff_false]
    split
    · decide
    · split
      · decide
      · split <;> decide
  · simp
theorem kind_is_inf {x : Nat} : kindF x = 2 ↔ rung x = inf := by
  unfold kindF
  cases h : isNan x
  · simp only [Bool.false_eq_true, if_false]
    by_cases c : rung x = inf
    · simp [c]
    · rw [if_neg c]
      simp only [c, iff_false]
      split
      · decide
      · split <;> decide
  · simp only [if_true]
    unfold isNan at h
    simp only [decide_eq_true_eq] at h
    constructor
    · intro h'; exact absurd h' (by decide)
    · intro h'; omega
theorem kind_is_zero {x : Nat} : kindF x = 3 ↔ rung x = 0 := by
  have hi : inf ≠ 0 := by decide
  unfold kindF
  cases h : isNan x
  · simp only [Bool.false_eq_true, if_false]
    by_cases c : rung x = inf
    · rw [if_pos c, c]
      constructor
      · intro h'; exact absurd h' (by decide)
      · intro h'; exact absurd h' hi
    · rw [if_neg c]
      by_cases d : rung x = 0
      · rw [if_pos d]; simp [d]
      · rw [if_neg d]
        simp only [d, iff_false]
        split <;> decide
  · simp only [if_true]
    unfold isNan at h
    simp only [decide_eq_true_eq] at h
    constructor
    · intro h'; exact absurd h' (by decide)
    · intro h'; omega
theorem kind_is_sub {x : Nat} : kindF x = 4 ↔ rung x ≠ 0 ∧ rung x < 4503599627370496 := by
  have hi : inf = 9218868437227405312 := by decide
  unfold kindF
  cases h : isNan x
  · simp only [Bool.false_eq_true, if_false]
    by_cases c : rung x = inf
    · rw [if_pos c, c]
      constructor
      · intro h'; exact absurd h' (by decide)
      · intro h'; omega
    · rw [if_neg c]
      by_cases d : rung x = 0
      · rw [if_pos d]; simp [d]
      · rw [if_neg d]
        by_cases e : rung x < 4503599627370496
        · rw [if_pos e]; simp [d, e]
        · rw [if_neg e]; simp [d, e]
  · simp only [if_true]
    unfold isNan at h
    simp only [decide_eq_true_eq] at h
    constructor
    · intro h'; exact absurd h' (by decide)
    · intro h'; omega

theorem op_add (a b : Nat) : opF 1 a b = (double.add a b).getD nanW := rfl
theorem op_sub (a b : Nat) : opF 2 a b = (double.sub a b).getD nanW := rfl
theorem op_mul (a b : Nat) : opF 3 a b = (double.mul a b).getD nanW := rfl
theorem op_div (a b : Nat) : opF 4 a b = (double.div a b).getD nanW := rfl
theorem op_add_comm (a b : Nat) : opF 1 b a = opF 1 a b := by rw [op_add, op_add, add_comm]
theorem op_mul_comm (a b : Nat) : opF 3 b a = opF 3 a b := by rw [op_mul, op_mul, mul_comm]

theorem fin_of {x : Nat} (h1 : isNan x = false) (h2 : rung x ≠ inf) : rung x < inf := by
  have := rung_inf h1; omega

/-- a difference of finite ones stands to nought as they stand to each other -/
theorem sub_sign {a b : Nat} (ha : rung a < inf) (hb : rung b < inf) : cmpF (opF 2 a b) 0 = cmpF a b := by
  obtain ⟨t, base, hbase, e, hv⟩ := sub_fin ha hb
  rw [op_sub, e]
  simp only [Option.getD_some]
  have na : isNan a = false := by unfold isNan; simp; omega
  have nb : isNan b = false := by unfold isNan; simp; omega
  have nd : ∀ s, isNan (mk s (near t.natAbs base)) = false := fun s => isNan_mk s (near_le _ _)
  rw [cmpF_num (nd _) (by decide), cmpF_num na nb]
  have hk0 : key 0 = 0 := by decide
  have kd : ∀ s, key (mk s (near t.natAbs base)) = if s then -(near t.natAbs base : Int) else near t.natAbs base := by
    intro s; unfold key; rw [sgn_mk _ _ (near_lt _ _), rung_mk _ _ (near_lt _ _)]
  have hp : (0 : Int) < ((2 ^ (base + 1074).toNat : Nat) : Int) := by
    have := Nat.two_pow_pos (base + 1074).toNat; omega
  have hc := compare_sval a b
  rw [hk0, kd]
  rcases Int.lt_trichotomy t 0 with c | c | c
  · have hn : near t.natAbs base ≠ 0 := near_pos (by omega) hbase
    have hs : sval a < sval b := by
      have := Int.mul_neg_of_neg_of_pos c hp
      omega
    rw [Int.compare_eq_lt.2 hs] at hc
    have hk := Int.compare_eq_lt.1 hc.symm
    have hsx : (if t = 0 then sgn a && !sgn b else decide (t < 0)) = true := by rw [if_neg (show ¬ t = 0 by omega)]; simpa using c
    rw [hsx]
    simp only [if_true]
    unfold cmp3
    rw [if_pos (by omega), if_pos hk]
  · subst c
    have hs : sval a = sval b := by
      rw [Int.zero_mul] at hv; omega
    rw [Int.compare_eq_eq.2 hs] at hc
    have hk := Int.compare_eq_eq.1 hc.symm
    have : near (Int.natAbs 0) base = 0 := near_zero base
    rw [this]
    unfold cmp3
    rw [hk]
    simp
  · have hn : near t.natAbs base ≠ 0 := near_pos (by omega) hbase
    have hs : sval b < sval a := by
      have := Int.mul_pos c hp
      omega
    rw [Int.compare_eq_gt.2 hs] at hc
    have hk := Int.compare_eq_gt.1 hc.symm
    have hsx : (if t = 0 then sgn a && !sgn b else decide (t < 0)) = false := by rw [if_neg (show ¬ t = 0 by omega)]; simp; omega
    rw [hsx]
    simp only [Bool.false_eq_true, if_false]
    unfold cmp3
    rw [if_neg (by omega), if_pos (by omega), if_neg (by omega), if_pos hk]

/-- whatever comes out as a NaN is the one NaN -/
theorem op_clean (k : Int) (a b : Nat) (h : isNan (opF k a b) = true) : opF k a b = nanW := by
  have ar : ∀ o : Option Nat, (∀ r, o = some r → isNan r = false) → isNan (o.getD nanW) = true → o.getD nanW = nanW := by
    intro o ho hn
    cases o with
    | none => rfl
    | some r => simp only [Option.getD_some] at hn; rw [ho r rfl] at hn; cases hn
  revert h
  unfold opF
  split
  · exact ar _ (res_cases _ (add_res a b)).2
  · split
    · exact ar _ (res_cases _ (sub_res a b)).2
    · split
      · exact ar _ (res_cases _ (mul_res a b)).2
      · split
        · exact ar _ (res_cases _ (div_res a b)).2
        · split
          · intro h; rw [isNan_clean] at h; exact clean_nan h
          · split
            · intro h; rw [isNan_clean] at h; exact clean_nan h
            · intro _; rfl

theorem op_none {k : Int} (a b : Nat) (h : k = 1 ∨ k = 2 ∨ k = 3 ∨ k = 4) (hn : isNan a = true ∨ isNan b = true) : opF k a b = nanW := by
  rcases h with rfl | rfl | rfl | rfl
  · rw [op_add]
    rcases add_cases a b with ⟨e, _⟩ | ⟨s, r, _, _, e1, e2⟩
    · rw [e]; rfl
    · rw [e1, e2] at hn; simp at hn
  · rw [op_sub]
    rcases sub_cases a b with ⟨e, _⟩ | ⟨s, r, _, _, e1, e2, _⟩
    · rw [e]; rfl
    · rw [e1, e2] at hn; simp at hn
  · rw [op_mul]
    rcases mul_cases a b with ⟨e, _⟩ | ⟨r, _, _, e1, e2, _⟩
    · rw [e]; rfl
    · rw [e1, e2] at hn; simp at hn
  · rw [op_div]
    rcases div_cases a b with ⟨e, _⟩ | ⟨r, _, _, e1, e2, _⟩
    · rw [e]; rfl
    · rw [e1, e2] at hn; simp at hn

theorem okey_le {x : Nat} : okey x ≤ 9223372036854775808 := by
  have := rung_lt x
  unfold okey
  split
  · omega
  · split <;> omega
theorem okey_nan {x : Nat} (h : isNan x = true) : okey x = 9223372036854775808 := by unfold okey; rw [h]; rfl
theorem okey_num {x : Nat} (h : isNan x = false) : okey x < 9223372036854775808 := by
  have := rung_inf h
  have hi := inf_lt
  unfold okey
  rw [h]
  simp only [Bool.false_eq_true, if_false]
  split <;> omega

theorem op_min (a b : Nat) : opF 5 a b = cleanF (firstF a b) := by
  unfold opF; rw [if_neg (by decide), if_neg (by decide), if_neg (by decide), if_neg (by decide), if_pos rfl]
theorem op_max (a b : Nat) : opF 6 a b = cleanF (lastF a b) := by
  unfold opF; rw [if_neg (by decide), if_neg (by decide), if_neg (by decide), if_neg (by decide), if_neg (by decide), if_pos rfl]

/-- beside a NaN the least and the greatest are the other one -/
theorem minmax_nan {k : Int} {n b : Nat} (h : k = 5 ∨ k = 6) (hn : isNan n = true) : opF k n b = cleanF b ∧ opF k b n = cleanF b := by
  rcases h with rfl | rfl
  · rw [op_min, op_min]
    unfold firstF
    rw [orderF_eq, orderF_eq, okey_nan hn]
    have hb := @okey_le b
    constructor
    · cases hb2 : isNan b
      · have := okey_num hb2
        rw [if_neg]
        unfold cmp3
        rw [if_neg (by omega), if_pos this]; decide
      · split
        · rw [clean_nan hn, clean_nan hb2]
        · rfl
    · rw [if_pos]
      unfold cmp3
      split
      · decide
      · rw [if_neg (by omega)]; decide
  · rw [op_max, op_max]
    unfold lastF
    rw [hn]
    simp only [if_true]
    refine ⟨trivial, ?_⟩
    cases hb : isNan b
    · rfl
    · simp only [if_true]; rw [clean_nan hn, clean_nan hb]

/-! the sign's bit -/
theorem sgn_nat (x : Nat) (h : x < 18446744073709551616) : x / 9223372036854775808 = (sgn x).toNat := by
  unfold sgn
  have : x / 9223372036854775808 = 0 ∨ x / 9223372036854775808 = 1 := by omega
  rcases this with e | e <;> rw [e] <;> rfl
theorem xor_word (a b : Nat) (ha : a < 18446744073709551616) (hb : b < 18446744073709551616) : (a ^^^ b) / 9223372036854775808 = (sgn a ^^ sgn b).toNat := by
  have e : (a ^^^ b) / 9223372036854775808 = a / 9223372036854775808 ^^^ b / 9223372036854775808 := Nat.xor_div_two_pow (n := 63)
  rw [e, sgn_nat a ha, sgn_nat b hb]
  cases sgn a <;> cases sgn b <;> rfl
theorem xor_lt (a b : Nat) (ha : a < 18446744073709551616) (hb : b < 18446744073709551616) : a ^^^ b < 18446744073709551616 := Nat.xor_lt_two_pow (n := 64) ha hb
/-- with its sign turned -/
theorem xor_opp (a : Nat) (ha : a < 18446744073709551616) : a ^^^ 9223372036854775808 = mk (!sgn a) (rung a) := by
  have h1 := xor_word a 9223372036854775808 ha (by decide)
  have h2 : (a ^^^ 9223372036854775808) % 9223372036854775808 = a % 9223372036854775808 ^^^ 9223372036854775808 % 9223372036854775808 := Nat.xor_mod_two_pow (n := 63)
  rw [show (9223372036854775808 : Nat) % 9223372036854775808 = 0 by decide, Nat.xor_zero] at h2
  rw [show sgn 9223372036854775808 = true by decide, Bool.xor_true] at h1
  have h3 : (a ^^^ 9223372036854775808) = 9223372036854775808 * ((a ^^^ 9223372036854775808) / 9223372036854775808) + (a ^^^ 9223372036854775808) % 9223372036854775808 := (Nat.div_add_mod _ _).symm
  rw [h1, h2] at h3
  rw [h3]
  unfold mk rung
  cases sgn a <;> simp

/-- a sum of opposites, a difference of the same -/
theorem sub_self {a : Nat} (ha : rung a < inf) : opF 2 a a = 0 := by
  obtain ⟨t, base, hbase, e, hv⟩ := sub_fin ha ha
  have hp : (0 : Int) < ((2 ^ (base + 1074).toNat : Nat) : Int) := by
    have := Nat.two_pow_pos (base + 1074).toNat; omega
  rw [Int.sub_self] at hv
  have ht : t = 0 := by
    rcases Int.mul_eq_zero.1 hv with h | h
    · exact h
    · omega
  subst ht
  rw [op_sub, e]
  simp only [Option.getD_some, if_true, Int.natAbs_zero, near_zero]
  unfold mk
  cases sgn a <;> rfl
theorem add_opp {a : Nat} (ha : rung a < inf) : opF 1 a (mk (!sgn a) (rung a)) = 0 := by
  have hr := rung_lt a
  have hs := sgn_mk (!sgn a) (rung a) hr
  have hg := rung_mk (!sgn a) (rung a) hr
  have hb : rung (mk (!sgn a) (rung a)) < inf := by rw [hg]; exact ha
  obtain ⟨t, base, hbase, e, hv⟩ := add_fin ha hb
  have hp : (0 : Int) < ((2 ^ (base + 1074).toNat : Nat) : Int) := by
    have := Nat.two_pow_pos (base + 1074).toNat; omega
  have hz : sval a + sval (mk (!sgn a) (rung a)) = 0 := by
    unfold sval
    rw [hs, hg]
    cases sgn a <;> simp <;> omega
  rw [hz] at hv
  have ht : t = 0 := by
    rcases Int.mul_eq_zero.1 hv with h | h
    · exact h
    · omega
  subst ht
  rw [op_add, e, hs]
  simp only [Option.getD_some, if_true, Int.natAbs_zero, near_zero]
  unfold mk
  cases sgn a <;> rfl
theorem sub_self_inf {a : Nat} (ha : rung a = inf) : opF 2 a a = nanW := by
  rw [op_sub]
  rcases sub_cases a a with ⟨e, _⟩ | ⟨s, r, _, _, _, _, h⟩
  · rw [e]; rfl
  · exact absurd ⟨ha, ha, rfl⟩ h

theorem ne_nan {x : Nat} (h : isNan x = false) : x ≠ nanW := by
  intro e; rw [e] at h; exact absurd h (by decide)

/-- but for zeros the order says what the comparison says -/
theorem cmp_other {a b : Nat} (na : isNan a = false) (nb : isNan b = false) (h : ¬ (rung a = 0 ∧ rung b = 0)) : cmpF a b = orderF a b := by
  unfold orderF
  rw [cmpF_num na nb]
  rcases cmp3_range (key a) (key b) with ⟨c, d⟩ | ⟨c, d⟩ | ⟨c, d⟩ <;> rw [c]
  · rfl
  · rw [if_neg (by decide), if_pos rfl]
    unfold key at d
    have : sgn a = sgn b := by
      cases hs : sgn a <;> cases ht : sgn b <;> simp only [hs, ht, Bool.false_eq_true, if_false, if_true] at d ⊢ <;> omega
    rw [this]
    unfold nay; rw [if_pos rfl]
  · rfl
theorem cmp_zeros {a b : Nat} (ha : rung a = 0) (hb : rung b = 0) : cmpF a b = 0 := by
  have na : isNan a = false := by unfold isNan; rw [ha]; decide
  have nb : isNan b = false := by unfold isNan; rw [hb]; decide
  rw [cmpF_num na nb]
  have ka : key a = 0 := by unfold key; rw [ha]; cases sgn a <;> rfl
  have kb : key b = 0 := by unfold key; rw [hb]; cases sgn b <;> rfl
  rw [ka, kb]; rfl

/-- the total order at three words, as far as the statement asks -/
theorem order_facts (a b c : Nat) : orderF a a = 0 ∧ ((orderF a b = 1 ∧ orderF b a = -1 ∧ okey b < okey a) ∨ (orderF a b = 0 ∧ orderF b a = 0 ∧ okey a = okey b ∧ (orderF b c ≤ 0 ∧ orderF a c ≤ 0 ∨ 0 < orderF b c)) ∨
    (orderF a b = -1 ∧ orderF b a = 1 ∧ okey a < okey b ∧ (orderF b c ≤ 0 ∧ orderF a c < 0 ∨ 0 < orderF b c))) := by
  rw [orderF_eq a a, orderF_eq a b, orderF_eq b a, orderF_eq b c, orderF_eq a c]
  have h1 := cmp3_range (okey a) (okey a)
  have h2 := cmp3_range (okey a) (okey b)
  have h3 := cmp3_range (okey b) (okey a)
  have h4 := cmp3_range (okey b) (okey c)
  have h5 := cmp3_range (okey a) (okey c)
  generalize cmp3 (okey a) (okey a) = v1 at *
  generalize cmp3 (okey a) (okey b) = v2 at *
  generalize cmp3 (okey b) (okey a) = v3 at *
  generalize cmp3 (okey b) (okey c) = v4 at *
  generalize cmp3 (okey a) (okey c) = v5 at *
  omega

theorem okey_eq_num {a b : Nat} (ha : a < 18446744073709551616) (hb : b < 18446744073709551616) (na : isNan a = false) (nb : isNan b = false) (h : okey a = okey b) : a = b := by
  have := (okey_inj ha hb).1 h
  rwa [clean_num na, clean_num nb] at this

/-- the least and the greatest of two numbers -/
theorem min_num {a b : Nat} (na : isNan a = false) (nb : isNan b = false) : opF 5 a b = if orderF a b ≤ 0 then a else b := by
  rw [op_min]
  unfold firstF
  split
  · exact clean_num na
  · exact clean_num nb
theorem max_num {a b : Nat} (na : isNan a = false) (nb : isNan b = false) : opF 6 a b = if 0 ≤ orderF a b then a else b := by
  rw [op_max]
  unfold lastF
  rw [na, nb]
  simp only [Bool.false_eq_true, if_false]
  split
  · exact clean_num na
  · exact clean_num nb

end Fp
end Go.Proofs.Ytednckjhgijekab
