/- What FpuNans does when it is called: it returns true on all numbers and all words. -/
import Derived.Test.YtednckjhgijekabOpWalk
import Derived.Test.YtednckjhgijekabFacts
import Derived.Test.YtednckjhgijekabWithin
namespace Go.Proofs.Ytednckjhgijekab
open Go.RowKit
open Fp

theorem payload_word (p : Nat) (hp : p < 18446744073709551616) : ∃ A B C N : Nat,
    bits .and .u64 (p : Int) 2251799813685247 = (A : Int) ∧ bits .or .u64 9221120237041090560 (A : Int) = (B : Int) ∧ bits .and .u64 (p : Int) 9223372036854775808 = (C : Int) ∧ bits .or .u64 (B : Int) (C : Int) = (N : Int) ∧
    isNan N = true ∧ N < 18446744073709551616 := by
  have a1 := u64_and_nat p 2251799813685247 hp (by decide)
  have hA : p &&& 2251799813685247 = p % 2251799813685248 := Nat.and_two_pow_sub_one_eq_mod p 51
  have hAl : p % 2251799813685248 < 2251799813685248 := Nat.mod_lt _ (by decide)
  rw [hA] at a1
  generalize p % 2251799813685248 = A at *
  have a2 := u64_or_nat 9221120237041090560 A (by decide) (by omega)
  have hB : 9221120237041090560 ||| A = 9221120237041090560 + A := nat_join 51 _ _ (by decide) hAl
  rw [hB] at a2
  have a3 := u64_and_nat p 9223372036854775808 hp (by decide)
  have hC : p &&& 9223372036854775808 = p / 9223372036854775808 % 2 * 9223372036854775808 := nat_bit 63 p
  rw [hC] at a3
  have hCl : p / 9223372036854775808 % 2 = 0 ∨ p / 9223372036854775808 % 2 = 1 := by omega
  generalize p / 9223372036854775808 % 2 = c at *
  have a4 := u64_or_nat (9221120237041090560 + A) (c * 9223372036854775808) (by omega) (by omega)
  have hN : (9221120237041090560 + A) ||| (c * 9223372036854775808) = c * 9223372036854775808 + (9221120237041090560 + A) := by
    rw [Nat.or_comm]
    exact nat_join 63 _ _ (Nat.mul_mod_left _ _) (by omega)
  rw [hN] at a4
  refine ⟨A, _, _, _, a1, a2, a3, a4, ?_, by omega⟩
  unfold isNan rung inf
  simp only [decide_eq_true_eq]
  rcases hCl with h | h <;> rw [h] <;> omega

theorem other_op (n : Int) (a b : Nat) : ∃ D J : Int, bits .and .i64 n 7 = D ∧ bits .or .i64 D 8 = J ∧ opF J a b = nanW := by
  have hD : ∃ d : Nat, d < 8 ∧ bits .and .i64 n 7 = (d : Int) := by
    refine ⟨(BitVec.ofInt 64 n).toNat % 8, Nat.mod_lt _ (by decide), ?_⟩
    have e : (BitVec.ofInt 64 n &&& BitVec.ofInt 64 7).toNat = (BitVec.ofInt 64 n).toNat % 8 := by
      rw [BitVec.toNat_and]
      exact Nat.and_two_pow_sub_one_eq_mod _ 3
    have hl : (BitVec.ofInt 64 n).toNat % 8 < 8 := Nat.mod_lt _ (by decide)
    show IntKind.wrap .i64 ((BitVec.ofInt 64 n &&& BitVec.ofInt 64 7).toNat : Int) = _
    rw [e]
    generalize (BitVec.ofInt 64 n).toNat % 8 = d at *
    rw [IntKind.wrap_i64]
    omega
  obtain ⟨d, hd, e⟩ := hD
  refine ⟨_, _, e, rfl, ?_⟩
  have hJ : bits .or .i64 (d : Int) 8 = (d : Int) + 8 := by
    have : d = 0 ∨ d = 1 ∨ d = 2 ∨ d = 3 ∨ d = 4 ∨ d = 5 ∨ d = 6 ∨ d = 7 := by omega
    rcases this with rfl | rfl | rfl | rfl | rfl | rfl | rfl | rfl <;> decide
  rw [hJ]
  unfold opF
  rw [if_neg (by omega), if_neg (by omega), if_neg (by omega), if_neg (by omega), if_neg (by omega), if_neg (by omega)]

theorem op_is_nan {w0 : World} {k : Int} {a b : Nat} (h : opF k a b = nanW) (ha : a < 18446744073709551616) (hb : b < 18446744073709551616) (w : World) (hg : Grown w0 w) :
    Calls Try.prog 6 #[.int .i64 k, .int .u64 a, .int .u64 b] w fun e w' => e = .returned (.int .u64 9221120237041090560) ∧ Grown w0 w' := by
  have c := op_at k a b ha hb w hg
  rw [h] at c
  exact c
theorem clean_is_nan {a : Nat} (h : isNan a = true) (w : World) : Calls Try.prog 8 #[.int .u64 a] w fun e w' => e = .returned (.int .u64 9221120237041090560) ∧ w' = w := by
  have c := clean_any a w
  rw [clean_nan h] at c
  exact c

theorem within_op (n : Int) {k : Int} (h : 1 + n % 6 = k) (w : World) : Calls Try.prog 5 #[.int .i64 n, .int .i64 1, .int .i64 6] w fun e w' => e = .returned (.int .i64 k) ∧ w' = w := by
  have c := within_any n 1 6 (by decide) (by decide) (by decide) w
  rw [show (6 : Int) - 1 + 1 = 6 by decide, h] at c
  exact c

set_option maxHeartbeats 1000000 in
theorem nans_any (n : Int) (a b p : Nat) (ha : a < 18446744073709551616) (hb : b < 18446744073709551616) (hp : p < 18446744073709551616) (w : World) :
    Calls Try.prog 3 #[.int .i64 n, .int .u64 a, .int .u64 b, .int .u64 p] w fun e w' => e = .returned (.bool true) ∧ Grown w w' := by
  obtain ⟨A, B, C, N, e1, e2, e3, e4, hN, hNl⟩ := payload_word p hp
  obtain ⟨D, J, e5, e6, hJ⟩ := other_op n a b
  have oj := @op_is_nan w J a b hJ ha hb
  clear hJ hp
  have cN := clean_is_nan hN
  have hg := Grown.refl w
  have hk : ∃ k, 1 + n % 6 = k ∧ (k = 1 ∨ k = 2 ∨ k = 3 ∨ k = 4 ∨ k = 5 ∨ k = 6) := ⟨_, rfl, by omega⟩
  obtain ⟨k, hk1, hk⟩ := hk
  have cw := within_op n hk1
  clear hk1
  have hz : (kindF (opF k a b) == 1) = false ∨ (kindF (opF k a b) == 1) = true ∧ opF k a b = nanW := by
    cases h : isNan (opF k a b)
    · left
      rw [beq_eq_false_iff_ne]
      intro h'
      rw [kind_nan, h] at h'
      cases h'
    · right
      exact ⟨by rw [beq_iff_eq, kind_nan]; exact h, op_clean k a b h⟩
  have hzl : opF k a b < 18446744073709551616 := opF_lt k ha hb
  have oz : ∃ Z : Nat, Z < 18446744073709551616 ∧ (∀ w1, Grown w w1 → Calls Try.prog 6 #[.int .i64 k, .int .u64 a, .int .u64 b] w1 fun e w' => e = .returned (.int .u64 Z) ∧ Grown w w') ∧ ((kindF Z == 1) = false ∨ (kindF Z == 1) = true ∧ ((Z : Int) != 9221120237041090560) = false) := by
    refine ⟨_, hzl, @op_at w k a b ha hb, ?_⟩
    rcases hz with h | ⟨h, h'⟩
    · exact Or.inl h
    · refine Or.inr ⟨h, ?_⟩
      rw [h']; decide
  clear hz hzl
  obtain ⟨Z, hZl, oz, hZ⟩ := oz
  have kz := kind_any Z hZl
  clear hZl
  have hk' : (k = 1 ∨ k = 2 ∨ k = 3 ∨ k = 4) ∨ (k = 5 ∨ k = 6) := by omega
  rcases hk' with hk' | hk'
  · have o1 := @op_is_nan w k N b (op_none N b hk' (Or.inl hN)) hNl hb
    have o2 := @op_is_nan w k a N (op_none a N hk' (Or.inr hN)) ha hNl
    clear ha hb hN hNl hk
    rcases hk' with rfl | rfl | rfl | rfl <;> rcases hZ with hZ | ⟨hZ, hZ'⟩
    all_goals
      go_enter Try.func3, Try.ntmps3
      go_wp2_with fail
      refine (cw _).mono ?_
      rintro e w0 ⟨rfl, rfl⟩
      go_wp2_with fail
      refine (o1 _ hg).mono ?_
      rintro e w1 ⟨rfl, hg⟩
      go_wp2_with fail
      refine (o2 _ hg).mono ?_
      rintro e w2 ⟨rfl, hg⟩
      go_wp2_with fail
      refine (oz _ hg).mono ?_
      rintro e w3 ⟨rfl, hg⟩
      go_wp2_with fail
      refine (kz _).mono ?_
      rintro e w4 ⟨rfl, rfl⟩
      go_wp2_with fail
      refine (cN _).mono ?_
      rintro e w5 ⟨rfl, rfl⟩
      go_wp2_with fail
      refine (oj _ hg).mono ?_
      rintro e w6 ⟨rfl, hg⟩
      go_wp2_with fail
      refine (runs_at _ hg).mono ?_
      rintro e w7 ⟨rfl, hg⟩
      go_wp2_with fail
      go_ret
      exact ⟨rfl, hg⟩
  · have o1 := @op_at w k N b hNl hb
    have o2 := @op_at w k a N ha hNl
    rw [(minmax_nan (b := b) hk' hN).1] at o1
    rw [(minmax_nan (b := a) hk' hN).2] at o2
    clear ha hb hN hNl hk
    rcases hk' with rfl | rfl <;> rcases hZ with hZ | ⟨hZ, hZ'⟩
    all_goals
      go_enter Try.func3, Try.ntmps3
      go_wp2_with fail
      refine (cw _).mono ?_
      rintro e w0 ⟨rfl, rfl⟩
      go_wp2_with fail
      refine (o1 _ hg).mono ?_
      rintro e w1 ⟨rfl, hg⟩
      go_wp2_with fail
      refine (o2 _ hg).mono ?_
      rintro e w2 ⟨rfl, hg⟩
      go_wp2_with fail
      refine (oz _ hg).mono ?_
      rintro e w3 ⟨rfl, hg⟩
      go_wp2_with fail
      refine (kz _).mono ?_
      rintro e w4 ⟨rfl, rfl⟩
      go_wp2_with fail
      refine (cN _).mono ?_
      rintro e w5 ⟨rfl, rfl⟩
      go_wp2_with fail
      refine (oj _ hg).mono ?_
      rintro e w6 ⟨rfl, hg⟩
      go_wp2_with fail
      refine (clean_any _ _).mono ?_
      rintro e w7 ⟨rfl, rfl⟩
      go_wp2_with fail
      refine (clean_any _ _).mono ?_
      rintro e w8 ⟨rfl, rfl⟩
      go_wp2_with fail
      refine (runs_at _ hg).mono ?_
      rintro e w9 ⟨rfl, hg⟩
      go_wp2_with fail
      go_ret
      exact ⟨rfl, hg⟩
end Go.Proofs.Ytednckjhgijekab
