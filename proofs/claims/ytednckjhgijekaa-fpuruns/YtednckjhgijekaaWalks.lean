/- What each function of package fpu does when it is called: its answer on every word, and that nothing in memory turns. -/
import Derived.Test.YtednckjhgijekaaRows
import Derived.WalkKit
import Derived.WalkSpells
import Derived.WalkLawsBesides
import Derived.Laws.FloatArith
import Derived.Laws.BitsAllLaws
import Derived.ProofKit
import Derived.Test.YtednckjhgijekaaFun
namespace Go.Proofs.Ytednckjhgijekaa
open Go.RowKit
open Fp

theorem frombits_run (n : Int) (w : World) : (callFunc 24 #[.int .u64 n]).run Try.prog w = .ok (.value (.float .f64 n.toNat)) w := by
  rw [run_callFunc_extern Try.func24 (by kernel_rfl) (by kernel_rfl) (by kernel_rfl) (e := Extern.MathFloatBits.float64frombits) (by kernel_rfl)]; rfl
theorem bits_run (n : Nat) (w : World) : (callFunc 34 #[.float .f64 n]).run Try.prog w = .ok (.value (.int .u64 n)) w := by
  rw [run_callFunc_extern Try.func34 (by kernel_rfl) (by kernel_rfl) (by kernel_rfl) (e := Extern.MathFloatBits.float64bits) (by kernel_rfl)]; rfl

theorem ret_bool {a b : Bool} (h : a = b) : Ending.returned (.bool a) = .returned (.bool b) := by rw [h]
theorem ret_int {k : IntKind} {a b : Int} (h : a = b) : Ending.returned (.int k a) = .returned (.int k b) := by rw [h]
theorem ret_float {a b : Nat} (h : a = b) : Ending.returned (.float .f64 a) = .returned (.float .f64 b) := by rw [h]

theorem neq_self (x : Nat) : (FloatKind.f64.format.order x x != some Ordering.eq) = isNan x := by
  have := ord_eq x x
  unfold bne
  rw [show FloatKind.f64.format = Ieee.double from rfl, this]
  unfold eqB num2
  cases isNan x <;> simp

theorem low63 (x : Nat) (h : x < 18446744073709551616) : bits .andNot .u64 (x : Int) 9223372036854775808 = (rung x : Int) := by
  have := u64_andNot_nat x 9223372036854775808 h (by decide)
  rw [show ((9223372036854775808 : Nat) : Int) = 9223372036854775808 from rfl] at this
  rw [this]
  congr 1
  exact Nat.and_two_pow_sub_one_eq_mod x 63

set_option maxHeartbeats 400000 in
theorem mIsNaN_any (x : Nat) (w : World) : Calls Try.prog 25 #[.float .f64 x] w fun e w' => e = .returned (.bool (isNan x)) ∧ w' = w := by
  have h := neq_self x
  go_enter Try.func25, Try.ntmps25
  go_wp2
  go_ret
  exact ⟨rfl, rfl⟩

theorem hlt (x y : Nat) : (FloatKind.f64.format.order x y == some Ordering.lt) = ltB x y := ord_lt x y
theorem hgt (x y : Nat) : (FloatKind.f64.format.order x y == some Ordering.gt) = ltB y x := ord_gt x y
theorem heq (x y : Nat) : (FloatKind.f64.format.order x y == some Ordering.eq) = eqB x y := ord_eq x y

set_option maxHeartbeats 400000 in
theorem mAbs_any (x : Nat) (hx : x < 18446744073709551616) (w : World) : Calls Try.prog 32 #[.float .f64 x] w fun e w' => e = .returned (.float .f64 (rung x)) ∧ w' = w := by
  have h1 := frombits_run
  have h2 := bits_run
  have h3 := low63 x hx
  clear hx
  go_enter Try.func32, Try.ntmps32
  go_wp2
  go_ret
  exact ⟨rfl, rfl⟩

theorem sgn_wrap (x : Nat) (hx : x < 18446744073709551616) : decide (wrap64 (x : Int) < 0) = sgn x := by
  unfold sgn
  by_cases c : x < 9223372036854775808
  · have e : wrap64 (x : Int) = x := by unfold wrap64; omega
    rw [e, show x / 9223372036854775808 % 2 = 0 by omega]
    simp
  · have e : wrap64 (x : Int) = (x : Int) - 18446744073709551616 := by unfold wrap64; omega
    rw [e, show x / 9223372036854775808 % 2 = 1 by omega]
    simp; omega

set_option maxHeartbeats 400000 in
theorem mSignbit_any (x : Nat) (hx : x < 18446744073709551616) (w : World) : Calls Try.prog 36 #[.float .f64 x] w fun e w' => e = .returned (.bool (sgn x)) ∧ w' = w := by
  have h1 := frombits_run
  have h2 := bits_run
  have h3 := sgn_wrap x hx
  clear hx
  go_enter Try.func36, Try.ntmps36
  go_wp2
  go_ret
  exact ⟨rfl, rfl⟩

set_option maxHeartbeats 400000 in
theorem cmp_any (x y : Nat) (w : World) : Calls Try.prog 11 #[.int .u64 x, .int .u64 y] w fun e w' => e = .returned (.int .i64 (cmpF x y)) ∧ w' = w := by
  have h1 := frombits_run
  have a1 := hlt x y
  have a2 := hgt x y
  have a3 := heq x y
  go_enter Try.func11, Try.ntmps11
  go_wp2
  all_goals (clear a1 a2 a3 h1; go_ret; exact ⟨ret_int (by simp [cmpF, *]), rfl⟩)

set_option maxHeartbeats 400000 in
theorem isNaN_any (x : Nat) (w : World) : Calls Try.prog 30 #[.int .u64 x] w fun e w' => e = .returned (.bool (isNan x)) ∧ w' = w := by
  have h1 := frombits_run
  go_enter Try.func30, Try.ntmps30
  go_wp2_with (go_at_call 25; refine (mIsNaN_any _ _).mono ?_; rintro e w' ⟨rfl, rfl⟩)
  go_ret
  exact ⟨rfl, rfl⟩

set_option maxHeartbeats 400000 in
theorem isNegative_any (x : Nat) (hx : x < 18446744073709551616) (w : World) : Calls Try.prog 31 #[.int .u64 x] w fun e w' => e = .returned (.bool (sgn x)) ∧ w' = w := by
  have h1 := frombits_run
  have c := mSignbit_any x hx
  clear hx
  go_enter Try.func31, Try.ntmps31
  go_wp2_with (go_at_call 36; refine (c _).mono ?_; rintro e w' ⟨rfl, rfl⟩)
  go_ret
  exact ⟨rfl, rfl⟩

set_option maxHeartbeats 400000 in
theorem clean_any (x : Nat) (w : World) : Calls Try.prog 16 #[.int .u64 x] w fun e w' => e = .returned (.int .u64 (cleanF x)) ∧ w' = w := by
  cases hn : isNan x
  all_goals
    have hc : cleanF x = if isNan x then nanW else x := rfl
    rw [hn] at hc
    go_enter Try.func16, Try.ntmps16
    go_wp2_with (go_at_call 30; refine (isNaN_any _ _).mono ?_; rintro e w' ⟨rfl, rfl⟩)
    go_ret
    refine ⟨ret_int ?_, rfl⟩
    rw [hc]; rfl

set_option maxHeartbeats 400000 in
theorem told_any (x : Nat) (w : World) : Calls Try.prog 26 #[.float .f64 x] w fun e w' => e = .returned (.int .u64 (cleanF x)) ∧ w' = w := by
  have h2 := bits_run
  go_enter Try.func26, Try.ntmps26
  go_wp2_with (go_at_call 16; refine (clean_any _ _).mono ?_; rintro e w' ⟨rfl, rfl⟩)
  go_ret
  exact ⟨rfl, rfl⟩

set_option maxHeartbeats 400000 in
theorem nay_any (a b : Bool) (w : World) : Calls Try.prog 29 #[.bool a, .bool b] w fun e w' => e = .returned (.int .i64 (nay a b)) ∧ w' = w := by
  cases a <;> cases b
  all_goals
    go_enter Try.func29, Try.ntmps29
    go_wp2
    go_ret
    exact ⟨rfl, rfl⟩

set_option maxHeartbeats 400000 in
theorem order_any (x y : Nat) (hx : x < 18446744073709551616) (hy : y < 18446744073709551616) (w : World) : Calls Try.prog 12 #[.int .u64 x, .int .u64 y] w fun e w' => e = .returned (.int .i64 (orderF x y)) ∧ w' = w := by
  have cx := isNegative_any x hx
  have cy := isNegative_any y hy
  clear hx hy
  by_cases h2 : cmpF x y = 2
  · have hc : Hid (orderF x y = nay (isNan x) (isNan y)) := by show _ = _; unfold orderF; rw [if_pos h2]
    have hb : (cmpF x y == 2) = true := by simp [h2]
    clear h2
    go_enter Try.func12, Try.ntmps12
    go_wp2_with (first | (go_at_call 11; refine (cmp_any _ _ _).mono ?_; rintro e w' ⟨rfl, rfl⟩) | (go_at_call 30; refine (isNaN_any _ _).mono ?_; rintro e w' ⟨rfl, rfl⟩) | (go_at_call 29; refine (nay_any _ _ _).mono ?_; rintro e w' ⟨rfl, rfl⟩))
    go_ret
    exact ⟨ret_int hc.out.symm, rfl⟩
  · by_cases h0 : cmpF x y = 0
    · have hc : Hid (orderF x y = nay (!sgn x) (!sgn y)) := by show _ = _; unfold orderF; rw [if_neg h2, if_pos h0]
      have hb : (cmpF x y == 2) = false := by simp [h2]
      have hd : (cmpF x y == 0) = true := by simp [h0]
      clear h2 h0
      go_enter Try.func12, Try.ntmps12
      go_wp2_with (first | (go_at_call 11; refine (cmp_any _ _ _).mono ?_; rintro e w' ⟨rfl, rfl⟩) | (go_at_call 31; first | (refine (cx _).mono ?_; rintro e w' ⟨rfl, rfl⟩) | (refine (cy _).mono ?_; rintro e w' ⟨rfl, rfl⟩)) | (go_at_call 29; refine (nay_any _ _ _).mono ?_; rintro e w' ⟨rfl, rfl⟩))
      go_ret
      exact ⟨ret_int hc.out.symm, rfl⟩
    · have hc : Hid (orderF x y = cmpF x y) := by show _ = _; unfold orderF; rw [if_neg h2, if_neg h0]
      have hb : (cmpF x y == 2) = false := by simp [h2]
      have hd : (cmpF x y == 0) = false := by simp [h0]
      clear h2 h0
      go_enter Try.func12, Try.ntmps12
      go_wp2_with (go_at_call 11; refine (cmp_any _ _ _).mono ?_; rintro e w' ⟨rfl, rfl⟩)
      go_ret
      exact ⟨ret_int hc.out.symm, rfl⟩

set_option maxHeartbeats 400000 in
theorem first_any (x y : Nat) (hx : x < 18446744073709551616) (hy : y < 18446744073709551616) (w : World) : Calls Try.prog 27 #[.int .u64 x, .int .u64 y] w fun e w' => e = .returned (.int .u64 (firstF x y)) ∧ w' = w := by
  have c := order_any x y hx hy
  clear hx hy
  by_cases h : orderF x y ≤ 0
  · have hc : Hid (firstF x y = x) := by show _ = _; unfold firstF; rw [if_pos h]
    go_enter Try.func27, Try.ntmps27
    go_wp2_with (go_at_call 12; refine (c _).mono ?_; rintro e w' ⟨rfl, rfl⟩)
    go_ret
    exact ⟨ret_int (by rw [hc.out]), rfl⟩
  · have hc : Hid (firstF x y = y) := by show _ = _; unfold firstF; rw [if_neg h]
    go_enter Try.func27, Try.ntmps27
    go_wp2_with (go_at_call 12; refine (c _).mono ?_; rintro e w' ⟨rfl, rfl⟩)
    go_ret
    exact ⟨ret_int (by rw [hc.out]), rfl⟩

set_option maxHeartbeats 400000 in
theorem last_any (x y : Nat) (hx : x < 18446744073709551616) (hy : y < 18446744073709551616) (w : World) : Calls Try.prog 28 #[.int .u64 x, .int .u64 y] w fun e w' => e = .returned (.int .u64 (lastF x y)) ∧ w' = w := by
  have c := order_any x y hx hy
  clear hx hy
  have hc : Hid (lastF x y = if isNan x then y else if isNan y then x else if 0 ≤ orderF x y then x else y) := rfl
  cases hn : isNan x
  · cases hm : isNan y
    · by_cases h : 0 ≤ orderF x y
      · replace hc : Hid (lastF x y = x) := by show _ = _; have := hc.out; rw [hn, hm] at this; simpa [h] using this
        go_enter Try.func28, Try.ntmps28
        go_wp2_with (first | (go_at_call 30; refine (isNaN_any _ _).mono ?_; rintro e w' ⟨rfl, rfl⟩) | (go_at_call 12; refine (c _).mono ?_; rintro e w' ⟨rfl, rfl⟩))
        go_ret
        exact ⟨ret_int (by rw [hc.out]), rfl⟩
      · replace hc : Hid (lastF x y = y) := by show _ = _; have := hc.out; rw [hn, hm] at this; simpa [h] using this
        go_enter Try.func28, Try.ntmps28
        go_wp2_with (first | (go_at_call 30; refine (isNaN_any _ _).mono ?_; rintro e w' ⟨rfl, rfl⟩) | (go_at_call 12; refine (c _).mono ?_; rintro e w' ⟨rfl, rfl⟩))
        go_ret
        exact ⟨ret_int (by rw [hc.out]), rfl⟩
    · replace hc : Hid (lastF x y = x) := by show _ = _; have := hc.out; rw [hn, hm] at this; simpa using this
      go_enter Try.func28, Try.ntmps28
      go_wp2_with (first | (go_at_call 30; refine (isNaN_any _ _).mono ?_; rintro e w' ⟨rfl, rfl⟩) | (go_at_call 12; refine (c _).mono ?_; rintro e w' ⟨rfl, rfl⟩))
      go_ret
      exact ⟨ret_int (by rw [hc.out]), rfl⟩
  · replace hc : Hid (lastF x y = y) := by show _ = _; have := hc.out; rw [hn] at this; simpa using this
    go_enter Try.func28, Try.ntmps28
    go_wp2_with (first | (go_at_call 30; refine (isNaN_any _ _).mono ?_; rintro e w' ⟨rfl, rfl⟩) | (go_at_call 12; refine (c _).mono ?_; rintro e w' ⟨rfl, rfl⟩))
    go_ret
    exact ⟨ret_int (by rw [hc.out]), rfl⟩

set_option maxHeartbeats 400000 in
theorem mIsInf_any (x : Nat) (w : World) : Calls Try.prog 33 #[.float .f64 x, .int .i64 1] w fun e w' => e = .returned (.bool (ltB 9218868437227405311 x)) ∧ w' = w := by
  have a2 := hgt x 9218868437227405311
  go_enter Try.func33, Try.ntmps33
  go_wp2
  go_ret
  exact ⟨rfl, rfl⟩

theorem rung_rung (x : Nat) : rung (rung x) = rung x := by unfold rung; omega
theorem sgn_rung (x : Nat) : sgn (rung x) = false := by
  have := rung_lt x
  unfold sgn
  rw [show rung x / 9223372036854775808 % 2 = 0 by omega]; rfl
theorem isNan_rung (x : Nat) : isNan (rung x) = isNan x := by unfold isNan; rw [rung_rung]
theorem key_rung (x : Nat) : key (rung x) = rung x := by unfold key; rw [sgn_rung, rung_rung]; rfl

theorem kind_inf {x : Nat} (h : isNan x = false) : ltB 9218868437227405311 (rung x) = decide (rung x = inf) := by
  have hr := rung_inf h
  have hi : inf = 9218868437227405312 := rfl
  unfold ltB num2
  rw [isNan_rung, h, show isNan 9218868437227405311 = false by decide, key_rung, show key 9218868437227405311 = 9218868437227405311 by decide]
  simp; omega
theorem kind_zero {x : Nat} (h : isNan x = false) : eqB (rung x) 0 = decide (rung x = 0) := by
  unfold eqB num2
  rw [isNan_rung, h, show isNan 0 = false by decide, key_rung, show key 0 = 0 by decide]
  simp
theorem kind_sub {x : Nat} (h : isNan x = false) : ltB (rung x) 4503599627370496 = decide (rung x < 4503599627370496) := by
  unfold ltB num2
  rw [isNan_rung, h, show isNan 4503599627370496 = false by decide, key_rung, show key 4503599627370496 = 4503599627370496 by decide]
  simp; omega

set_option maxHeartbeats 400000 in
theorem kind_any (x : Nat) (hx : x < 18446744073709551616) (w : World) : Calls Try.prog 14 #[.int .u64 x] w fun e w' => e = .returned (.int .i64 (kindF x)) ∧ w' = w := by
  have h1 := frombits_run
  have c := mAbs_any x hx
  clear hx
  have a1 := hlt (rung x) 4503599627370496
  have a3 := heq (rung x) 0
  have n0 := isNan_rung x
  have hk : Hid (kindF x = if isNan x then 1 else if rung x = inf then 2 else if rung x = 0 then 3 else if rung x < 4503599627370496 then 4 else 5) := rfl
  cases hn : isNan x
  · have k1 := kind_inf hn
    have k2 := kind_zero hn
    have k3 := kind_sub hn
    rw [hn] at n0
    by_cases e1 : rung x = inf
    · replace hk : Hid (kindF x = 2) := by show _ = _; have := hk.out; rw [hn] at this; simpa [e1] using this
      rw [decide_eq_true e1] at k1
      clear k2 k3 e1
      go_enter Try.func14, Try.ntmps14
      go_wp2_with (first | (go_at_call 32; refine (c _).mono ?_; rintro e w' ⟨rfl, rfl⟩) | (go_at_call 25; refine (mIsNaN_any _ _).mono ?_; rintro e w' ⟨rfl, rfl⟩) | (go_at_call 33; refine (mIsInf_any _ _).mono ?_; rintro e w' ⟨rfl, rfl⟩))
      go_ret
      exact ⟨ret_int (by rw [hk.out]), rfl⟩
    · rw [decide_eq_false e1] at k1
      by_cases e2 : rung x = 0
      · replace hk : Hid (kindF x = 3) := by
          have := hk.out
          rw [hn, if_neg (by decide), if_neg e1, if_pos e2] at this
          exact this
        rw [decide_eq_true e2] at k2
        clear k3 e1 e2
        go_enter Try.func14, Try.ntmps14
        go_wp2_with (first | (go_at_call 32; refine (c _).mono ?_; rintro e w' ⟨rfl, rfl⟩) | (go_at_call 25; refine (mIsNaN_any _ _).mono ?_; rintro e w' ⟨rfl, rfl⟩) | (go_at_call 33; refine (mIsInf_any _ _).mono ?_; rintro e w' ⟨rfl, rfl⟩))
        go_ret
        exact ⟨ret_int (by rw [hk.out]), rfl⟩
      · rw [decide_eq_false e2] at k2
        by_cases e3 : rung x < 4503599627370496
        · replace hk : Hid (kindF x = 4) := by
            have := hk.out
            rw [hn, if_neg (by decide), if_neg e1, if_neg e2, if_pos e3] at this
            exact this
          rw [decide_eq_true e3] at k3
          clear e1 e2 e3
          go_enter Try.func14, Try.ntmps14
          go_wp2_with (first | (go_at_call 32; refine (c _).mono ?_; rintro e w' ⟨rfl, rfl⟩) | (go_at_call 25; refine (mIsNaN_any _ _).mono ?_; rintro e w' ⟨rfl, rfl⟩) | (go_at_call 33; refine (mIsInf_any _ _).mono ?_; rintro e w' ⟨rfl, rfl⟩))
          go_ret
          exact ⟨ret_int (by rw [hk.out]), rfl⟩
        · replace hk : Hid (kindF x = 5) := by
            have := hk.out
            rw [hn, if_neg (by decide), if_neg e1, if_neg e2, if_neg e3] at this
            exact this
          rw [decide_eq_false e3] at k3
          clear e1 e2 e3
          go_enter Try.func14, Try.ntmps14
          go_wp2_with (first | (go_at_call 32; refine (c _).mono ?_; rintro e w' ⟨rfl, rfl⟩) | (go_at_call 25; refine (mIsNaN_any _ _).mono ?_; rintro e w' ⟨rfl, rfl⟩) | (go_at_call 33; refine (mIsInf_any _ _).mono ?_; rintro e w' ⟨rfl, rfl⟩))
          go_ret
          exact ⟨ret_int (by rw [hk.out]), rfl⟩
  · rw [hn] at n0
    replace hk : Hid (kindF x = 1) := by show _ = _; have := hk.out; rw [hn] at this; simpa using this
    go_enter Try.func14, Try.ntmps14
    go_wp2_with (first | (go_at_call 32; refine (c _).mono ?_; rintro e w' ⟨rfl, rfl⟩) | (go_at_call 25; refine (mIsNaN_any _ _).mono ?_; rintro e w' ⟨rfl, rfl⟩) | (go_at_call 33; refine (mIsInf_any _ _).mono ?_; rintro e w' ⟨rfl, rfl⟩))
    go_ret
    exact ⟨ret_int (by rw [hk.out]), rfl⟩

theorem big_eq (x : Nat) : (FloatKind.f64.format.order x 4890909195324358656 == some Ordering.gt || FloatKind.f64.format.order x 4890909195324358656 == some Ordering.eq) = big x := by
  rw [hgt, heq]
  unfold ltB eqB num2 big
  rw [show isNan 4890909195324358656 = false by decide, show key 4890909195324358656 = 4890909195324358656 by decide]
  cases isNan x
  · simp; rw [Bool.eq_iff_iff]; simp; omega
  · simp
theorem low_eq (x : Nat) : (FloatKind.f64.format.order x 14114281232179134464 == some Ordering.lt) = low x := by
  rw [hlt]
  unfold ltB num2 low
  rw [show isNan 14114281232179134464 = false by decide, show key 14114281232179134464 = -4890909195324358656 by decide]
  cases isNan x <;> simp

theorem strunc_run {x : Nat} (hn : isNan x = false) (hb : big x = false) (hl : low x = false) : floatToIntVal .f64 x .i64 = some (strunc x) := by
  have hi : inf = 9218868437227405312 := rfl
  unfold big at hb
  unfold low at hl
  rw [hn] at hb hl
  simp only [Bool.not_false, Bool.true_and, decide_eq_false_iff_not] at hb hl
  have hr : rung x ≤ 4890909195324358656 := by
    unfold key at hb hl
    cases hs : sgn x <;> rw [hs] at hb hl <;> simp at hb hl <;> omega
  have hp : sgn x = false → rung x < 4890909195324358656 := by
    intro hs; unfold key at hb; rw [hs] at hb; simp at hb; omega
  unfold floatToIntVal
  rw [show (FloatKind.decode .f64 x).toInt .zero = some (strunc x) from toInt_fin (by omega)]
  simp only []
  rw [if_pos]
  unfold strunc
  have ht : tr (rung x) ≤ 9223372036854775808 := by
    by_cases e : rung x = 4890909195324358656
    · rw [e, tr_top]; exact Nat.le_refl _
    · exact Nat.le_of_lt (tr_lt (by omega))
  rw [show IntKind.min .i64 = -9223372036854775808 by decide, show IntKind.max .i64 = 9223372036854775807 by decide]
  cases hs : sgn x
  · have := tr_lt (hp hs)
    simp; omega
  · simp; omega

set_option maxHeartbeats 400000 in
theorem int_any (x : Nat) (w : World) : Calls Try.prog 9 #[.int .u64 x] w fun e w' => e = .returned (.tuple #[.int .i64 (intN x), .bool (intOk x)]) ∧ w' = w := by
  have h1 := frombits_run
  have b1 := big_eq x
  have b2 := low_eq x
  have hN : Hid (intN x = if isNan x then 0 else if big x then 9223372036854775807 else if low x then -9223372036854775808 else strunc x) := rfl
  have hO : Hid (intOk x = (!isNan x && !big x && !low x)) := rfl
  cases hn : isNan x
  · cases hb : big x
    · cases hl : low x
      · have hv := strunc_run hn hb hl
        have hcv : ∀ w, (convert 37 3 (.float .f64 x)).run Try.prog w = .ok (.int .i64 (strunc x)) w := fun w => run_convert_float_int w 37 3 .f64 .i64 x _ (by rw [Try.underlying37]; rfl) Try.underlying3 hv
        clear hv
        go_enter Try.func9, Try.ntmps9
        go_wp2_with (go_at_call 25; refine (mIsNaN_any _ _).mono ?_; rintro e w' ⟨rfl, rfl⟩)
        go_ret2
        refine ⟨?_, rfl⟩
        rw [hN.out, hO.out, hn, hb, hl]; rfl
      · go_enter Try.func9, Try.ntmps9
        go_wp2_with (go_at_call 25; refine (mIsNaN_any _ _).mono ?_; rintro e w' ⟨rfl, rfl⟩)
        go_ret2
        refine ⟨?_, rfl⟩
        rw [hN.out, hO.out, hn, hb, hl]; rfl
    · go_enter Try.func9, Try.ntmps9
      go_wp2_with (go_at_call 25; refine (mIsNaN_any _ _).mono ?_; rintro e w' ⟨rfl, rfl⟩)
      go_ret2
      refine ⟨?_, rfl⟩
      rw [hN.out, hO.out, hn, hb]; rfl
  · go_enter Try.func9, Try.ntmps9
    go_wp2_with (go_at_call 25; refine (mIsNaN_any _ _).mono ?_; rintro e w' ⟨rfl, rfl⟩)
    go_ret2
    refine ⟨?_, rfl⟩
    rw [hN.out, hO.out, hn]; rfl

end Go.Proofs.Ytednckjhgijekaa
