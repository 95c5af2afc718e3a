/- What FpuInts does when it is called: it returns true on all numbers and words. -/
import Derived.Test.YtednckjhgijekaaOpWalk
import Derived.Test.YtednckjhgijekaaOfWalk
import Derived.Test.YtednckjhgijekaaWithin
import Derived.Test.YtednckjhgijekaaIntFacts
namespace Go.Proofs.Ytednckjhgijekaa
open Go.RowKit
open Fp

theorem payload_nan (p : Nat) (hp : Wd p) : ∃ A B : Nat, bits .and .u64 (p : Int) 2251799813685247 = (A : Int) ∧ bits .or .u64 9221120237041090560 (A : Int) = (B : Int) ∧ isNan B = true := by
  have a1 := u64_and_nat p 2251799813685247 hp (by decide)
  have hA : p &&& 2251799813685247 = p % 2251799813685248 := Nat.and_two_pow_sub_one_eq_mod p 51
  have hAl : p % 2251799813685248 < 2251799813685248 := Nat.mod_lt _ (by decide)
  rw [hA] at a1
  generalize p % 2251799813685248 = A at *
  have a2 := u64_or_nat 9221120237041090560 A (by decide) (by omega)
  have hB : 9221120237041090560 ||| A = 9221120237041090560 + A := nat_join 51 _ _ (by decide) hAl
  rw [hB] at a2
  refine ⟨A, _, a1, a2, ?_⟩
  unfold isNan rung inf
  simp only [decide_eq_true_eq]
  omega

theorem within_k (n : Int) : ∃ k : Int, -9007199254740992 ≤ k ∧ k ≤ 9007199254740992 ∧ ∀ w, Calls Try.prog 23 #[.int .i64 n, .int .i64 (-9007199254740992), .int .i64 9007199254740992] w fun e w' => e = .returned (.int .i64 k) ∧ w' = w := by
  refine ⟨-9007199254740992 + n % 18014398509481985, by omega, by omega, fun w => ?_⟩
  have c := within_any n (-9007199254740992) 9007199254740992 (by decide) (by decide) (by decide) w
  rw [show (9007199254740992 : Int) - (-9007199254740992) + 1 = 18014398509481985 by decide] at c
  exact c
theorem within_h (n : Int) : ∃ k : Int, -1099511627776 ≤ k ∧ k ≤ 1099511627776 ∧ ∀ w, Calls Try.prog 23 #[.int .i64 n, .int .i64 (-1099511627776), .int .i64 1099511627776] w fun e w' => e = .returned (.int .i64 k) ∧ w' = w := by
  refine ⟨-1099511627776 + n % 2199023255553, by omega, by omega, fun w => ?_⟩
  have c := within_any n (-1099511627776) 1099511627776 (by decide) (by decide) (by decide) w
  rw [show (1099511627776 : Int) - (-1099511627776) + 1 = 2199023255553 by decide] at c
  exact c

theorem op_half_add {w0 : World} (x : Nat) (hx : Wd x) (w : World) (hg : Grown w0 w) : Calls Try.prog 10 #[.int .i64 1, .int .u64 x, .int .u64 4602678819172646912] w fun e w' => e = .returned (.int .u64 (opF 1 x 4602678819172646912)) ∧ Grown w0 w' :=
  op_at 1 x 4602678819172646912 hx (by decide) w hg

theorem int_lit {x : Nat} {n : Int} {b : Bool} (h1 : intN x = n) (h2 : intOk x = b) (w : World) : Calls Try.prog 9 #[.int .u64 x] w fun e w' => e = .returned (.tuple #[.int .i64 n, .bool b]) ∧ w' = w := by
  have c := int_any x w
  rw [h1, h2] at c
  exact c
theorem intPI (w : World) : Calls Try.prog 9 #[.int .u64 9218868437227405312] w fun e w' => e = .returned (.tuple #[.int .i64 9223372036854775807, .bool false]) ∧ w' = w := by
  have c := int_lit (x := 9218868437227405312) (n := 9223372036854775807) (b := false) (by decide) (by decide) w
  exact c
theorem intNI (w : World) : Calls Try.prog 9 #[.int .u64 18442240474082181120] w fun e w' => e = .returned (.tuple #[.int .i64 (-9223372036854775808), .bool false]) ∧ w' = w := by
  have c := int_lit (x := 18442240474082181120) (n := -9223372036854775808) (b := false) (by decide) (by decide) w
  exact c
theorem ofMin (w : World) : Calls Try.prog 21 #[.int .i64 (-9223372036854775808)] w fun e w' => e = .returned (.int .u64 14114281232179134464) ∧ w' = w := by
  have c := of_any (-9223372036854775808) w
  rw [show ofF (-9223372036854775808) = 14114281232179134464 by decide +kernel] at c
  exact c
theorem intMin (w : World) : Calls Try.prog 9 #[.int .u64 14114281232179134464] w fun e w' => e = .returned (.tuple #[.int .i64 (-9223372036854775808), .bool true]) ∧ w' = w := by
  have hs : strunc 14114281232179134464 = -9223372036854775808 := by
    unfold strunc
    rw [show sgn 14114281232179134464 = true by decide, show rung 14114281232179134464 = 4890909195324358656 by decide, tr_top]; rfl
  have hN : intN 14114281232179134464 = -9223372036854775808 := by
    unfold intN
    rw [show isNan 14114281232179134464 = false by decide, show big 14114281232179134464 = false by decide, show low 14114281232179134464 = false by decide, hs]; rfl
  have c := int_lit (x := 14114281232179134464) (b := true) hN (by decide) w
  exact c
theorem ofMax (w : World) : Calls Try.prog 21 #[.int .i64 9223372036854775807] w fun e w' => e = .returned (.int .u64 4890909195324358656) ∧ w' = w := by
  have c := of_any 9223372036854775807 w
  rw [show ofF 9223372036854775807 = 4890909195324358656 by decide +kernel] at c
  exact c
theorem intMax (w : World) : Calls Try.prog 9 #[.int .u64 4890909195324358656] w fun e w' => e = .returned (.tuple #[.int .i64 9223372036854775807, .bool false]) ∧ w' = w := by
  have c := int_lit (x := 4890909195324358656) (n := 9223372036854775807) (b := false) (by decide) (by decide) w
  exact c

theorem int_of_nan {x : Nat} (h : isNan x = true) (w : World) : Calls Try.prog 9 #[.int .u64 x] w fun e w' => e = .returned (.tuple #[.int .i64 0, .bool false]) ∧ w' = w :=
  int_lit (by unfold intN; rw [h]; rfl) (by unfold intOk; rw [h]; rfl) w

set_option maxRecDepth 100000 in
set_option maxHeartbeats 1000000 in
theorem ints_any (n : Int) (p : Nat) (hp : Wd p) (w : World) :
    Calls Try.prog 7 #[.int .i64 n, .int .u64 p] w fun e w' => e = .returned (.bool true) ∧ Grown w w' := by
  have hg := Grown.refl w
  obtain ⟨A, B, e1, e2, hB⟩ := payload_nan p hp
  have cB := int_of_nan hB
  clear hB hp
  obtain ⟨k, k1, k2, ck⟩ := within_k n
  obtain ⟨h, h1, h2, ch⟩ := within_h n
  obtain ⟨i1, i2⟩ := of_back k1 k2
  have ci := fun w => int_lit i1 i2 w
  clear i1 i2 k1 k2
  obtain ⟨j1, j2⟩ := half_back h1 h2
  have ho := ofF_lt h
  have co := @op_half_add w (ofF h) ho
  clear ho
  by_cases hneg : h < 0
  · rw [if_pos hneg] at j1
    have cj := fun w => int_lit j1 j2 w
    clear j1 j2
    go_enter Try.func7, Try.ntmps7
    go_wp2_with fail
    refine (ck _).mono ?_
    rintro e w1 ⟨rfl, rfl⟩
    go_wp2_with fail
    refine (of_any _ _).mono ?_
    rintro e w1 ⟨rfl, rfl⟩
    go_wp2_with fail
    refine (ci _).mono ?_
    rintro e w1 ⟨rfl, rfl⟩
    go_wp2_with fail
    refine (ch _).mono ?_
    rintro e w1 ⟨rfl, rfl⟩
    go_wp2_with fail
    refine (of_any _ _).mono ?_
    rintro e w1 ⟨rfl, rfl⟩
    go_wp2_with fail
    refine (co _ hg).mono ?_
    clear hg
    rintro e w1 ⟨rfl, hg⟩
    go_wp2_with fail
    refine (cj _).mono ?_
    rintro e w1 ⟨rfl, rfl⟩
    go_wp2_with fail
    refine (intPI _).mono ?_
    rintro e w1 ⟨rfl, rfl⟩
    go_wp2_with fail
    refine (intNI _).mono ?_
    rintro e w1 ⟨rfl, rfl⟩
    go_wp2_with fail
    refine (cB _).mono ?_
    rintro e w1 ⟨rfl, rfl⟩
    go_wp2_with fail
    refine (ofMin _).mono ?_
    rintro e w1 ⟨rfl, rfl⟩
    go_wp2_with fail
    refine (intMin _).mono ?_
    rintro e w1 ⟨rfl, rfl⟩
    go_wp2_with fail
    refine (ofMax _).mono ?_
    rintro e w1 ⟨rfl, rfl⟩
    go_wp2_with fail
    refine (intMax _).mono ?_
    rintro e w1 ⟨rfl, rfl⟩
    go_wp2_with fail
    refine (runs_at _ hg).mono ?_
    clear hg
    rintro e w1 ⟨rfl, hg⟩
    go_wp2_with fail
    go_ret
    exact ⟨rfl, hg⟩
  · rw [if_neg hneg] at j1
    have cj := fun w => int_lit j1 j2 w
    clear j1 j2
    go_enter Try.func7, Try.ntmps7
    go_wp2_with fail
    refine (ck _).mono ?_
    rintro e w1 ⟨rfl, rfl⟩
    go_wp2_with fail
    refine (of_any _ _).mono ?_
    rintro e w1 ⟨rfl, rfl⟩
    go_wp2_with fail
    refine (ci _).mono ?_
    rintro e w1 ⟨rfl, rfl⟩
    go_wp2_with fail
    refine (ch _).mono ?_
    rintro e w1 ⟨rfl, rfl⟩
    go_wp2_with fail
    refine (of_any _ _).mono ?_
    rintro e w1 ⟨rfl, rfl⟩
    go_wp2_with fail
    refine (co _ hg).mono ?_
    clear hg
    rintro e w1 ⟨rfl, hg⟩
    go_wp2_with fail
    refine (cj _).mono ?_
    rintro e w1 ⟨rfl, rfl⟩
    go_wp2_with fail
    refine (intPI _).mono ?_
    rintro e w1 ⟨rfl, rfl⟩
    go_wp2_with fail
    refine (intNI _).mono ?_
    rintro e w1 ⟨rfl, rfl⟩
    go_wp2_with fail
    refine (cB _).mono ?_
    rintro e w1 ⟨rfl, rfl⟩
    go_wp2_with fail
    refine (ofMin _).mono ?_
    rintro e w1 ⟨rfl, rfl⟩
    go_wp2_with fail
    refine (intMin _).mono ?_
    rintro e w1 ⟨rfl, rfl⟩
    go_wp2_with fail
    refine (ofMax _).mono ?_
    rintro e w1 ⟨rfl, rfl⟩
    go_wp2_with fail
    refine (intMax _).mono ?_
    rintro e w1 ⟨rfl, rfl⟩
    go_wp2_with fail
    refine (runs_at _ hg).mono ?_
    clear hg
    rintro e w1 ⟨rfl, hg⟩
    go_wp2_with fail
    go_ret
    exact ⟨rfl, hg⟩
end Go.Proofs.Ytednckjhgijekaa
