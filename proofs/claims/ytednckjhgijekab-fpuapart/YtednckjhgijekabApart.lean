/- What FpuApart does when it is called: it returns true on all words. -/
import Derived.Test.YtednckjhgijekabOpWalk
import Derived.Test.YtednckjhgijekabFacts
namespace Go.Proofs.Ytednckjhgijekab
open Go.RowKit
open Fp

set_option maxHeartbeats 400000 in
theorem apart_any (a b : Nat) (ha : a < 18446744073709551616) (hb : b < 18446744073709551616) (w : World) :
    Calls Try.prog 4 #[.int .u64 a, .int .u64 b] w fun e w' => e = .returned (.bool true) ∧ Grown w w' := by
  have o1 := @op_at w 1 a b ha hb
  have o2 := @op_at w 1 b a hb ha
  have o3 := @op_at w 3 a b ha hb
  have o4 := @op_at w 3 b a hb ha
  have o5 := @op_at w 2 a b ha hb
  have c1 := kind_any a ha
  have c2 := kind_any b hb
  rw [op_add_comm] at o2
  rw [op_mul_comm] at o4
  clear ha hb
  have hg := Grown.refl w
  have K : ((kindF a == 1) = true ∨ (kindF a == 1) = false ∧ (kindF b == 1) = true ∨ (kindF a == 1) = false ∧ (kindF b == 1) = false ∧ (kindF a == 2) = true ∨ (kindF a == 1) = false ∧ (kindF b == 1) = false ∧ (kindF a == 2) = false ∧ (kindF b == 2) = true) ∨
      ((kindF a == 1) = false ∧ (kindF b == 1) = false ∧ (kindF a == 2) = false ∧ (kindF b == 2) = false ∧ Hid (cmpF (opF 2 a b) 0 = cmpF a b)) := by
    simp only [beq_iff_eq, beq_eq_false_iff_ne, ne_eq, kind_nan, kind_is_inf, Bool.not_eq_true]
    cases h1 : isNan a
    · cases h2 : isNan b
      · by_cases h3 : rung a = inf
        · simp [h3]
        · by_cases h4 : rung b = inf
          · simp [h4, h3]
          · refine Or.inr ⟨rfl, rfl, h3, h4, ?_⟩
            exact sub_sign (fin_of h1 h3) (fin_of h2 h4)
      · simp
    · simp
  rcases K with K | ⟨k1, k2, k3, k4, k5⟩
  · rcases K with k1 | ⟨k1, k2⟩ | ⟨k1, k2, k3⟩ | ⟨k1, k2, k3, k4⟩
    all_goals
      go_enter Try.func4, Try.ntmps4
      go_wp2_with fail
      refine (o1 _ hg).mono ?_
      rintro e w1 ⟨rfl, hg⟩
      go_wp2_with fail
      refine (o2 _ hg).mono ?_
      rintro e w2 ⟨rfl, hg⟩
      go_wp2_with fail
      refine (o3 _ hg).mono ?_
      rintro e w3 ⟨rfl, hg⟩
      go_wp2_with fail
      refine (o4 _ hg).mono ?_
      rintro e w4 ⟨rfl, hg⟩
      go_wp2_with fail
      refine (c1 _).mono ?_
      rintro e w5 ⟨rfl, rfl⟩
      go_wp2_with fail
      refine (c2 _).mono ?_
      rintro e w6 ⟨rfl, rfl⟩
      go_wp2_with fail
      refine (runs_at _ hg).mono ?_
      rintro e w7 ⟨rfl, hg⟩
      go_wp2_with fail
      go_ret
      exact ⟨rfl, hg⟩
  · go_enter Try.func4, Try.ntmps4
    go_wp2_with fail
    refine (o1 _ hg).mono ?_
    rintro e w1 ⟨rfl, hg⟩
    go_wp2_with fail
    refine (o2 _ hg).mono ?_
    rintro e w2 ⟨rfl, hg⟩
    go_wp2_with fail
    refine (o3 _ hg).mono ?_
    rintro e w3 ⟨rfl, hg⟩
    go_wp2_with fail
    refine (o4 _ hg).mono ?_
    rintro e w4 ⟨rfl, hg⟩
    go_wp2_with fail
    refine (c1 _).mono ?_
    rintro e w5 ⟨rfl, rfl⟩
    go_wp2_with fail
    refine (c2 _).mono ?_
    rintro e w6 ⟨rfl, rfl⟩
    go_wp2_with fail
    refine (o5 _ hg).mono ?_
    rintro e w7 ⟨rfl, hg⟩
    go_wp2_with fail
    refine (cmp_nought _ _).mono ?_
    rintro e w8 ⟨rfl, rfl⟩
    rw [k5.out]
    go_wp2_with fail
    refine (cmp_any _ _ _).mono ?_
    rintro e w9 ⟨rfl, rfl⟩
    go_wp2_with fail
    refine (runs_at _ hg).mono ?_
    rintro e w10 ⟨rfl, hg⟩
    go_wp2_with fail
    go_ret
    exact ⟨rfl, hg⟩
end Go.Proofs.Ytednckjhgijekab
