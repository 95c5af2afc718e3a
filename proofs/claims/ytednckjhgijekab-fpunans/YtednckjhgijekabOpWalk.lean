/- What fpu.Op does when it is called: its answer on every operation and all words, whichever NaN the machine underneath gives; and what FpuRuns answers. -/
import Derived.Test.YtednckjhgijekabWalks
namespace Go.Proofs.Ytednckjhgijekab
open Go.RowKit
open Fp

def nanOf (a b : Nat) (w : World) : Nat := (Question.nanBits .f64 a b).cut (w.tape w.drawn (.nanBits .f64 a b))

theorem nanOf_nan (a b : Nat) (w : World) : isNan (nanOf a b w) = true := by
  unfold nanOf
  generalize w.tape w.drawn (.nanBits .f64 a b) = t
  show isNan ((t % 2) * 2 ^ 63 + 0x7ff0000000000000 + 1 + (t / 2) % (2 ^ 52 - 1)) = true
  have hu : (t / 2) % (2 ^ 52 - 1) < 4503599627370495 := Nat.mod_lt _ (by decide)
  have hv : t % 2 = 0 ∨ t % 2 = 1 := by omega
  generalize (t / 2) % (2 ^ 52 - 1) = u at *
  unfold isNan rung inf
  simp only [decide_eq_true_eq]
  rcases hv with e | e <;> rw [e] <;> omega

theorem arith_none (op : BinOp) (t : TypeId) (a b : Nat) (w : World) (hop : op = .add ∨ op = .sub ∨ op = .mul ∨ op = .quo) (h : floatBits op .f64 a b = none) :
    (binOp op t (.float .f64 a) (.float .f64 b)).run Try.prog w = .ok (.float .f64 (nanOf a b w)) w.drew := by
  unfold floatBits at h
  rcases hop with rfl | rfl | rfl | rfl <;> simp only at h <;> simp [binOp, Op.floatArith, h, nanOf, Question.forced]

theorem grown_trans {a b c : World} (h : Grown a b) (g : Grown b c) : Grown a c :=
  ⟨World.keptBut_trans h.1 g.1, fun x => (g.2.1 x).trans (h.2.1 x), Nat.le_trans h.2.2 g.2.2⟩

theorem op_arith (op : BinOp) (k : Int) (a b : Nat) (w : World) (hop : op = .add ∨ op = .sub ∨ op = .mul ∨ op = .quo) (hk : opF k a b = (floatBits op .f64 a b).getD nanW) (hr : ∀ r, floatBits op .f64 a b = some r → isNan r = false) :
    ∃ z w', (∀ t, (binOp op t (.float .f64 a) (.float .f64 b)).run Try.prog w = .ok (.float .f64 z) w') ∧ cleanF z = opF k a b ∧ Grown w w' := by
  cases h : floatBits op .f64 a b with
  | none =>
    refine ⟨nanOf a b w, w.drew, fun t => arith_none op t a b w hop h, ?_, (Grown.refl w).drew⟩
    rw [clean_nan (nanOf_nan a b w), hk, h]; rfl
  | some r =>
    refine ⟨r, w, fun t => run_float_arith w op t .f64 a b r h, ?_, Grown.refl w⟩
    rw [clean_num (hr r h), hk, h]; rfl

set_option maxHeartbeats 400000 in
theorem op_any (k : Int) (a b : Nat) (ha : a < 18446744073709551616) (hb : b < 18446744073709551616) (w : World) :
    Calls Try.prog 6 #[.int .i64 k, .int .u64 a, .int .u64 b] w fun e w' => e = .returned (.int .u64 (opF k a b)) ∧ Grown w w' := by
  have c1 := first_any a b ha hb
  have c2 := last_any a b ha hb
  clear ha hb
  have h1 := frombits_run
  by_cases k1 : k = 1
  · subst k1
    obtain ⟨z, w1, hz, hcl, hg⟩ := op_arith .add 1 a b w (by simp) rfl (res_cases _ (add_res a b)).2
    have HC : Hid (cleanF z = opF 1 a b) := hcl
    clear hcl
    go_enter Try.func6, Try.ntmps6
    go_wp2_with (go_at_call 12; refine (told_any _ _).mono ?_; rintro e w' ⟨rfl, rfl⟩)
    go_ret
    exact ⟨ret_int (by rw [← HC.out]), hg⟩
  · by_cases k2 : k = 2
    · subst k2
      obtain ⟨z, w1, hz, hcl, hg⟩ := op_arith .sub 2 a b w (by simp) rfl (res_cases _ (sub_res a b)).2
      have HC : Hid (cleanF z = opF 2 a b) := hcl
      clear hcl
      go_enter Try.func6, Try.ntmps6
      go_wp2_with (go_at_call 12; refine (told_any _ _).mono ?_; rintro e w' ⟨rfl, rfl⟩)
      go_ret
      exact ⟨ret_int (by rw [← HC.out]), hg⟩
    · by_cases k3 : k = 3
      · subst k3
        obtain ⟨z, w1, hz, hcl, hg⟩ := op_arith .mul 3 a b w (by simp) rfl (res_cases _ (mul_res a b)).2
        have HC : Hid (cleanF z = opF 3 a b) := hcl
        clear hcl
        go_enter Try.func6, Try.ntmps6
        go_wp2_with (go_at_call 12; refine (told_any _ _).mono ?_; rintro e w' ⟨rfl, rfl⟩)
        go_ret
        exact ⟨ret_int (by rw [← HC.out]), hg⟩
      · by_cases k4 : k = 4
        · subst k4
          obtain ⟨z, w1, hz, hcl, hg⟩ := op_arith .quo 4 a b w (by simp) rfl (res_cases _ (div_res a b)).2
          have HC : Hid (cleanF z = opF 4 a b) := hcl
          clear hcl
          go_enter Try.func6, Try.ntmps6
          go_wp2_with (go_at_call 12; refine (told_any _ _).mono ?_; rintro e w' ⟨rfl, rfl⟩)
          go_ret
          exact ⟨ret_int (by rw [← HC.out]), hg⟩
        · by_cases k5 : k = 5
          · subst k5
            go_enter Try.func6, Try.ntmps6
            go_wp2_with (first | (go_at_call 13; refine (c1 _).mono ?_; rintro e w' ⟨rfl, rfl⟩) | (go_at_call 8; refine (clean_any _ _).mono ?_; rintro e w' ⟨rfl, rfl⟩))
            go_ret
            exact ⟨rfl, Grown.refl _⟩
          · by_cases k6 : k = 6
            · subst k6
              go_enter Try.func6, Try.ntmps6
              go_wp2_with (first | (go_at_call 14; refine (c2 _).mono ?_; rintro e w' ⟨rfl, rfl⟩) | (go_at_call 8; refine (clean_any _ _).mono ?_; rintro e w' ⟨rfl, rfl⟩))
              go_ret
              exact ⟨rfl, Grown.refl _⟩
            · have hf : Hid (opF k a b = nanW) := by show _ = _; unfold opF; rw [if_neg k1, if_neg k2, if_neg k3, if_neg k4, if_neg k5, if_neg k6]
              have t1 : (k == 1) = false := by simp [k1]
              have t2 : (k == 2) = false := by simp [k2]
              have t3 : (k == 3) = false := by simp [k3]
              have t4 : (k == 4) = false := by simp [k4]
              have t5 : (k == 5) = false := by simp [k5]
              have t6 : (k == 6) = false := by simp [k6]
              clear k1 k2 k3 k4 k5 k6
              go_enter Try.func6, Try.ntmps6
              go_wp2_with fail
              go_ret
              exact ⟨ret_int (by rw [hf.out]; rfl), Grown.refl _⟩

theorem op_at {w0 : World} (k : Int) (a b : Nat) (ha : a < 18446744073709551616) (hb : b < 18446744073709551616) (w : World) (hg : Grown w0 w) :
    Calls Try.prog 6 #[.int .i64 k, .int .u64 a, .int .u64 b] w fun e w' => e = .returned (.int .u64 (opF k a b)) ∧ Grown w0 w' :=
  (op_any k a b ha hb w).mono fun _ _ h => ⟨h.1, grown_trans hg h.2⟩

theorem run1 : opF 1 9223372036854775808 9223372036854775808 = 9223372036854775808 := by decide +kernel
theorem run2 : opF 5 0 9223372036854775808 = 9223372036854775808 := by decide +kernel
theorem run3 : opF 4 4607182418800017408 9223372036854775808 = 18442240474082181120 := by decide +kernel
theorem run4 : cmpF 9223372036854775808 0 = 0 := by decide +kernel
theorem run5 : orderF 9223372036854775808 0 = -1 := by decide +kernel
theorem run6 : intOk 13836183955189006336 = true := by decide +kernel
theorem run7 : intN 13836183955189006336 = -2 := by
  have : strunc 13836183955189006336 = -2 := by decide +kernel
  unfold intN
  rw [show isNan 13836183955189006336 = false by decide, show big 13836183955189006336 = false by decide, show low 13836183955189006336 = false by decide]
  exact this

theorem runA (w : World) : Calls Try.prog 19 #[.int .u64 13836183955189006336] w fun e w' => e = .returned (.tuple #[.int .i64 (-2), .bool true]) ∧ w' = w := by
  have c := int_any 13836183955189006336 w
  rw [run6, run7] at c
  exact c
theorem runB {w0 : World} (w : World) (hg : Grown w0 w) : Calls Try.prog 6 #[.int .i64 1, .int .u64 9223372036854775808, .int .u64 9223372036854775808] w fun e w' => e = .returned (.int .u64 9223372036854775808) ∧ Grown w0 w' := by
  have c := op_at 1 9223372036854775808 9223372036854775808 (by decide) (by decide) w hg
  rw [run1] at c
  exact c
theorem runC {w0 : World} (w : World) (hg : Grown w0 w) : Calls Try.prog 6 #[.int .i64 5, .int .u64 0, .int .u64 9223372036854775808] w fun e w' => e = .returned (.int .u64 9223372036854775808) ∧ Grown w0 w' := by
  have c := op_at 5 0 9223372036854775808 (by decide) (by decide) w hg
  rw [run2] at c
  exact c
theorem runD {w0 : World} (w : World) (hg : Grown w0 w) : Calls Try.prog 6 #[.int .i64 4, .int .u64 4607182418800017408, .int .u64 9223372036854775808] w fun e w' => e = .returned (.int .u64 18442240474082181120) ∧ Grown w0 w' := by
  have c := op_at 4 4607182418800017408 9223372036854775808 (by decide) (by decide) w hg
  rw [run3] at c
  exact c
theorem runE (w : World) : Calls Try.prog 10 #[.int .u64 9223372036854775808, .int .u64 0] w fun e w' => e = .returned (.int .i64 0) ∧ w' = w := by
  have c := cmp_any 9223372036854775808 0 w
  rw [run4] at c
  exact c
theorem runF (w : World) : Calls Try.prog 20 #[.int .u64 9223372036854775808, .int .u64 0] w fun e w' => e = .returned (.int .i64 (-1)) ∧ w' = w := by
  have c := order_any 9223372036854775808 0 (by decide) (by decide) w
  rw [run5] at c
  exact c

set_option maxHeartbeats 400000 in
theorem runs_any (w : World) : Calls Try.prog 9 #[] w fun e w' => e = .returned (.bool true) ∧ Grown w w' := by
  have hg := Grown.refl w
  go_enter Try.func9, Try.ntmps9
  go_wp2_with fail
  refine (runA _).mono ?_
  rintro e w1 ⟨rfl, rfl⟩
  go_wp2_with fail
  refine (runB _ hg).mono ?_
  rintro e w2 ⟨rfl, hg⟩
  go_wp2_with fail
  refine (runC _ hg).mono ?_
  rintro e w3 ⟨rfl, hg⟩
  go_wp2_with fail
  refine (runD _ hg).mono ?_
  rintro e w4 ⟨rfl, hg⟩
  go_wp2_with fail
  refine (runE _).mono ?_
  rintro e w5 ⟨rfl, rfl⟩
  go_wp2_with fail
  refine (runF _).mono ?_
  rintro e w6 ⟨rfl, rfl⟩
  go_wp2_with fail
  go_ret
  exact ⟨rfl, hg⟩

theorem runs_at {w0 : World} (w : World) (hg : Grown w0 w) : Calls Try.prog 9 #[] w fun e w' => e = .returned (.bool true) ∧ Grown w0 w' :=
  (runs_any w).mono fun _ _ h => ⟨h.1, grown_trans hg h.2⟩

theorem cmp_nought (x : Nat) (w : World) : Calls Try.prog 10 #[.int .u64 x, .int .u64 0] w fun e w' => e = .returned (.int .i64 (cmpF x 0)) ∧ w' = w := cmp_any x 0 w

/-- an argument of type uint64 is a word -/
theorem word_of {a : Int} (h : (Lit.int .u64 a).wf = true) : ∃ n : Nat, a = (n : Int) ∧ n < 18446744073709551616 := by
  have e1 : IntKind.min .u64 = 0 := by decide
  have e2 : IntKind.max .u64 = 18446744073709551615 := by decide
  simp only [Lit.wf, decide_eq_true_eq, Bool.and_eq_true, e1, e2] at h
  exact ⟨a.toNat, by omega, by omega⟩

/-- a word of 64 bits: the walk need not look behind the name -/
def Wd (n : Nat) : Prop := n < 18446744073709551616

theorem kind_w (x : Nat) (h : Wd x) (w : World) : Calls Try.prog 7 #[.int .u64 x] w fun e w' => e = .returned (.int .i64 (kindF x)) ∧ w' = w := kind_any x h w
theorem order_w (x y : Nat) (h : Wd x) (g : Wd y) (w : World) : Calls Try.prog 20 #[.int .u64 x, .int .u64 y] w fun e w' => e = .returned (.int .i64 (orderF x y)) ∧ w' = w := order_any x y h g w
theorem op_w {w0 : World} (k : Int) (a b : Nat) (ha : Wd a) (hb : Wd b) (w : World) (hg : Grown w0 w) :
    Calls Try.prog 6 #[.int .i64 k, .int .u64 a, .int .u64 b] w fun e w' => e = .returned (.int .u64 (opF k a b)) ∧ Grown w0 w' := op_at k a b ha hb w hg
end Go.Proofs.Ytednckjhgijekab
