/- What the document's own answers to layer 1 do when they are called: the same as package fpu's, on every word. -/
import Derived.Test.YtednckjhgijekaaOpWalk
import Derived.Test.YtednckjhgijekaaFacts
namespace Go.Proofs.Ytednckjhgijekaa
open Go.RowKit
open Fp

theorem field_e (x : Nat) (hx : x < 18446744073709551616) : bits .and .u64 ((x : Int) / 4503599627370496) 2047 = ((rung x / 4503599627370496 : Nat) : Int) := by
  have h1 : ((x : Int) / 4503599627370496) = ((x / 4503599627370496 : Nat) : Int) := by omega
  have h2 := u64_and_nat (x / 4503599627370496) 2047 (by omega) (by decide)
  rw [show ((2047 : Nat) : Int) = 2047 from rfl] at h2
  rw [h1, h2]
  congr 1
  have h3 : x / 4503599627370496 &&& 2047 = x / 4503599627370496 % 2048 := Nat.and_two_pow_sub_one_eq_mod _ 11
  rw [h3]
  unfold rung
  omega
theorem field_m (x : Nat) (hx : x < 18446744073709551616) : bits .and .u64 (x : Int) 4503599627370495 = ((rung x % 4503599627370496 : Nat) : Int) := by
  have h2 := u64_and_nat x 4503599627370495 hx (by decide)
  rw [show ((4503599627370495 : Nat) : Int) = 4503599627370495 from rfl] at h2
  rw [h2]
  congr 1
  have h3 : x &&& 4503599627370495 = x % 4503599627370496 := Nat.and_two_pow_sub_one_eq_mod _ 52
  rw [h3]
  unfold rung
  omega
theorem sign_div (x : Nat) (hx : x < 18446744073709551616) : ((x : Int) / 9223372036854775808 == 1) = sgn x := by
  have h1 : ((x : Int) / 9223372036854775808) = ((x / 9223372036854775808 : Nat) : Int) := by omega
  rw [h1, sgn_nat x hx]
  cases sgn x <;> rfl

theorem kind_cases (x : Nat) : (kindF x = 1 ∧ rung x / 4503599627370496 = 2047 ∧ rung x % 4503599627370496 ≠ 0) ∨ (kindF x = 2 ∧ rung x / 4503599627370496 = 2047 ∧ rung x % 4503599627370496 = 0) ∨
    (kindF x = 3 ∧ rung x / 4503599627370496 = 0 ∧ rung x % 4503599627370496 = 0) ∨ (kindF x = 4 ∧ rung x / 4503599627370496 = 0 ∧ rung x % 4503599627370496 ≠ 0) ∨
    (kindF x = 5 ∧ rung x / 4503599627370496 ≠ 0 ∧ rung x / 4503599627370496 ≠ 2047) := by
  have hl := rung_lt x
  have hi : inf = 9218868437227405312 := rfl
  unfold kindF isNan
  by_cases h1 : inf < rung x
  · simp only [decide_eq_true_eq]
    rw [if_pos h1]; omega
  · simp only [decide_eq_true_eq]
    rw [if_neg h1]
    by_cases h2 : rung x = inf
    · rw [if_pos h2]; omega
    · rw [if_neg h2]
      by_cases h3 : rung x = 0
      · rw [if_pos h3]; omega
      · rw [if_neg h3]
        by_cases h4 : rung x < 4503599627370496
        · rw [if_pos h4]; omega
        · rw [if_neg h4]; omega

set_option maxHeartbeats 400000 in
theorem refKind_any (x : Nat) (hx : Wd x) (w : World) : Calls Try.prog 15 #[.int .u64 x] w fun e w' => e = .returned (.int .i64 (kindF x)) ∧ w' = w := by
  have f1 := field_e x hx
  have f2 := field_m x hx
  have hk := kind_cases x
  clear hx
  generalize rung x / 4503599627370496 = E at *
  generalize rung x % 4503599627370496 = M at *
  rcases hk with ⟨hk, h1, h2⟩ | ⟨hk, h1, h2⟩ | ⟨hk, h1, h2⟩ | ⟨hk, h1, h2⟩ | ⟨hk, h1, h2⟩
  · have g1 : ((E : Int) == 2047) = true := by rw [beq_iff_eq]; omega
    have g2 : ((M : Int) != 0) = true := by rw [bne_iff_ne]; omega
    have HK : Hid (kindF x = 1) := hk
    clear hk h1 h2
    go_enter Try.func15, Try.ntmps15
    go_wp2
    go_ret
    exact ⟨ret_int HK.out.symm, rfl⟩
  · have g1 : ((E : Int) == 2047) = true := by rw [beq_iff_eq]; omega
    have g2 : ((M : Int) != 0) = false := by rw [bne_eq_false_iff_eq]; omega
    have HK : Hid (kindF x = 2) := hk
    clear hk h1 h2
    go_enter Try.func15, Try.ntmps15
    go_wp2
    go_ret
    exact ⟨ret_int HK.out.symm, rfl⟩
  · have g1 : ((E : Int) == 2047) = false := by rw [beq_eq_false_iff_ne]; omega
    have g3 : ((E : Int) == 0) = true := by rw [beq_iff_eq]; omega
    have g4 : ((M : Int) == 0) = true := by rw [beq_iff_eq]; omega
    have HK : Hid (kindF x = 3) := hk
    clear hk h1 h2
    go_enter Try.func15, Try.ntmps15
    go_wp2
    go_ret
    exact ⟨ret_int HK.out.symm, rfl⟩
  · have g1 : ((E : Int) == 2047) = false := by rw [beq_eq_false_iff_ne]; omega
    have g3 : ((E : Int) == 0) = true := by rw [beq_iff_eq]; omega
    have g4 : ((M : Int) == 0) = false := by rw [beq_eq_false_iff_ne]; omega
    have HK : Hid (kindF x = 4) := hk
    clear hk h1 h2
    go_enter Try.func15, Try.ntmps15
    go_wp2
    go_ret
    exact ⟨ret_int HK.out.symm, rfl⟩
  · have g1 : ((E : Int) == 2047) = false := by rw [beq_eq_false_iff_ne]; omega
    have g3 : ((E : Int) == 0) = false := by rw [beq_eq_false_iff_ne]; omega
    have HK : Hid (kindF x = 5) := hk
    clear hk h1 h2
    go_enter Try.func15, Try.ntmps15
    go_wp2
    go_ret
    exact ⟨ret_int HK.out.symm, rfl⟩

theorem kind_nan_b (x : Nat) : (kindF x == 1) = isNan x := by
  rw [Bool.eq_iff_iff, beq_iff_eq]; exact kind_nan

set_option maxHeartbeats 400000 in
theorem refClean_any (x : Nat) (hx : Wd x) (w : World) : Calls Try.prog 17 #[.int .u64 x] w fun e w' => e = .returned (.int .u64 (cleanF x)) ∧ w' = w := by
  have hk := kind_nan_b x
  cases hn : isNan x
  all_goals
    have hc : Hid (cleanF x = if isNan x then nanW else x) := rfl
    rw [hn] at hk
    go_enter Try.func17, Try.ntmps17
    go_wp2_with (go_at_call 15; refine (refKind_any _ ?_ _).mono ?_; assumption; rintro e w' ⟨rfl, rfl⟩)
    go_ret
    refine ⟨ret_int ?_, rfl⟩
    rw [hc.out, hn]; rfl

def placeF (x : Nat) : Nat := if isNan x then 18446744073709551615 else if sgn x then 18446744073709551615 - x else x + 9223372036854775808

theorem place_not (x : Nat) (hx : x < 18446744073709551616) : bits .xor .u64 IntKind.u64.max (x : Int) = ((18446744073709551615 - x : Nat) : Int) := by
  have h := u64_xor_nat 18446744073709551615 x (by decide) hx
  rw [show ((18446744073709551615 : Nat) : Int) = IntKind.u64.max by decide] at h
  rw [h]
  congr 1
  have e1 : ∀ n : BitVec 64, (BitVec.allOnes 64 ^^^ n) = ~~~n := fun n => BitVec.allOnes_xor
  have e2 := congrArg BitVec.toNat (e1 (BitVec.ofNat 64 x))
  rw [BitVec.toNat_xor, BitVec.toNat_not, BitVec.toNat_allOnes, BitVec.toNat_ofNat, Nat.mod_eq_of_lt hx] at e2
  exact e2
theorem place_or {x : Nat} (hx : x < 18446744073709551616) (hs : sgn x = false) : bits .or .u64 (x : Int) 9223372036854775808 = ((x + 9223372036854775808 : Nat) : Int) := by
  have h := u64_or_nat x 9223372036854775808 hx (by decide)
  rw [show ((9223372036854775808 : Nat) : Int) = 9223372036854775808 from rfl] at h
  rw [h]
  congr 1
  have hl : x < 9223372036854775808 := by
    have := sgn_nat x hx
    rw [hs] at this
    simp only [Bool.toNat_false] at this
    omega
  rw [Nat.or_comm, Nat.add_comm]
  exact nat_join 63 _ _ (by decide) hl

set_option maxHeartbeats 400000 in
theorem refplace_any (x : Nat) (hx : Wd x) (w : World) : Calls Try.prog 35 #[.int .u64 x] w fun e w' => e = .returned (.int .u64 (placeF x)) ∧ w' = w := by
  have hk := kind_nan_b x
  have hs := sign_div x hx
  have hc : Hid (placeF x = if isNan x then 18446744073709551615 else if sgn x then 18446744073709551615 - x else x + 9223372036854775808) := rfl
  cases hn : isNan x
  · rw [hn] at hk
    cases hsg : sgn x
    · rw [hsg] at hs
      have ho := place_or hx hsg
      go_enter Try.func35, Try.ntmps35
      go_wp2_with (go_at_call 15; refine (refKind_any _ ?_ _).mono ?_; assumption; rintro e w' ⟨rfl, rfl⟩)
      go_ret
      refine ⟨?_, rfl⟩
      rw [hc.out, hn, hsg]; rfl
    · rw [hsg] at hs
      have ho := place_not x hx
      go_enter Try.func35, Try.ntmps35
      go_wp2_with (go_at_call 15; refine (refKind_any _ ?_ _).mono ?_; assumption; rintro e w' ⟨rfl, rfl⟩)
      go_ret
      refine ⟨?_, rfl⟩
      rw [hc.out, hn, hsg]; rfl
  · rw [hn] at hk
    go_enter Try.func35, Try.ntmps35
    go_wp2_with (go_at_call 15; refine (refKind_any _ ?_ _).mono ?_; assumption; rintro e w' ⟨rfl, rfl⟩)
    go_ret
    refine ⟨?_, rfl⟩
    rw [hc.out, hn]; rfl

theorem place_okey {x : Nat} (hx : x < 18446744073709551616) (hn : isNan x = false) : (placeF x : Int) = okey x + 9223372036854775808 := by
  have hm := mk_of x hx
  have hl := rung_lt x
  unfold placeF okey
  rw [hn]
  simp only [Bool.false_eq_true, if_false]
  unfold mk at hm
  cases hs : sgn x <;> rw [hs] at hm <;> simp only [Bool.false_eq_true, if_false, if_true] at hm ⊢ <;> omega
theorem place_nan {x : Nat} (hn : isNan x = true) : placeF x = 18446744073709551615 := by unfold placeF; rw [hn]; rfl

/-- the places stand as the order says -/
theorem place_order {x y : Nat} (hx : x < 18446744073709551616) (hy : y < 18446744073709551616) : orderF x y = cmp3 (placeF x) (placeF y) := by
  have hi : inf = 9218868437227405312 := rfl
  rw [orderF_eq]
  have bound : ∀ {z : Nat}, isNan z = false → okey z ≤ inf := by
    intro z hz
    have := rung_inf hz
    unfold okey
    rw [hz]
    simp only [Bool.false_eq_true, if_false]
    split <;> omega
  cases hnx : isNan x <;> cases hny : isNan y
  · rw [place_okey hx hnx, place_okey hy hny]
    unfold cmp3
    split
    · rw [if_pos (by omega)]
    · split
      · rw [if_neg (by omega), if_pos (by omega)]
      · rw [if_neg (by omega), if_neg (by omega)]
  · rw [place_okey hx hnx, place_nan hny, okey_nan hny]
    have := bound hnx
    unfold cmp3
    rw [if_pos (by omega), if_pos (by omega)]
  · rw [place_okey hy hny, place_nan hnx, okey_nan hnx]
    have := bound hny
    unfold cmp3
    rw [if_neg (by omega), if_pos (by omega), if_neg (by omega), if_pos (by omega)]
  · rw [place_nan hnx, place_nan hny, okey_nan hnx, okey_nan hny]; rfl

set_option maxHeartbeats 400000 in
theorem refOrder_any (x y : Nat) (hx : Wd x) (hy : Wd y) (w : World) : Calls Try.prog 20 #[.int .u64 x, .int .u64 y] w fun e w' => e = .returned (.int .i64 (orderF x y)) ∧ w' = w := by
  have ho : Hid (orderF x y = cmp3 (placeF x) (placeF y)) := place_order hx hy
  have hc : Hid (cmp3 (placeF x) (placeF y) = if (placeF x : Int) < placeF y then -1 else if (placeF y : Int) < placeF x then 1 else 0) := rfl
  by_cases h1 : (placeF x : Int) < placeF y
  · go_enter Try.func20, Try.ntmps20
    go_wp2_with (go_at_call 35; refine (refplace_any _ ?_ _).mono ?_; assumption; rintro e w' ⟨rfl, rfl⟩)
    go_ret
    exact ⟨ret_int (by rw [ho.out, hc.out, if_pos h1]), rfl⟩
  · by_cases h2 : (placeF y : Int) < placeF x
    · go_enter Try.func20, Try.ntmps20
      go_wp2_with (go_at_call 35; refine (refplace_any _ ?_ _).mono ?_; assumption; rintro e w' ⟨rfl, rfl⟩)
      go_ret
      exact ⟨ret_int (by rw [ho.out, hc.out, if_neg (by omega), if_pos h2]), rfl⟩
    · go_enter Try.func20, Try.ntmps20
      go_wp2_with (go_at_call 35; refine (refplace_any _ ?_ _).mono ?_; assumption; rintro e w' ⟨rfl, rfl⟩)
      go_ret
      exact ⟨ret_int (by rw [ho.out, hc.out, if_neg (by omega), if_neg (by omega)]), rfl⟩

set_option maxHeartbeats 400000 in
theorem refCmp_any (x y : Nat) (hx : Wd x) (hy : Wd y) (w : World) : Calls Try.prog 19 #[.int .u64 x, .int .u64 y] w fun e w' => e = .returned (.int .i64 (cmpF x y)) ∧ w' = w := by
  have k1 := kind_nan_b x
  have k2 := kind_nan_b y
  cases hn : isNan x
  · rw [hn] at k1
    cases hm : isNan y
    · rw [hm] at k2
      have hz : ((kindF x == 3) = true ∧ (kindF y == 3) = true ∧ Hid (cmpF x y = 0)) ∨ ((kindF x == 3) = true ∧ (kindF y == 3) = false ∧ Hid (cmpF x y = orderF x y)) ∨ ((kindF x == 3) = false ∧ Hid (cmpF x y = orderF x y)) := by
        simp only [beq_iff_eq, beq_eq_false_iff_ne, ne_eq, kind_is_zero]
        by_cases h1 : rung x = 0
        · by_cases h2 : rung y = 0
          · exact Or.inl ⟨h1, h2, cmp_zeros h1 h2⟩
          · exact Or.inr (Or.inl ⟨h1, h2, cmp_other hn hm (fun h => h2 h.2)⟩)
        · exact Or.inr (Or.inr ⟨h1, cmp_other hn hm (fun h => h1 h.1)⟩)
      rcases hz with ⟨z1, z2, hc⟩ | ⟨z1, z2, hc⟩ | ⟨z1, hc⟩
      all_goals
        go_enter Try.func19, Try.ntmps19
        go_wp2_with (first | (go_at_call 15; refine (refKind_any _ ?_ _).mono ?_; assumption; rintro e w' ⟨rfl, rfl⟩) | (go_at_call 20; refine (refOrder_any _ _ ?_ ?_ _).mono ?_; assumption; assumption; rintro e w' ⟨rfl, rfl⟩) | (go_at_call 17; refine (refClean_any _ ?_ _).mono ?_; assumption; rintro e w' ⟨rfl, rfl⟩))
        go_ret
        exact ⟨ret_int hc.out.symm, rfl⟩
    · rw [hm] at k2
      have hc : Hid (cmpF x y = 2) := cmpF_nan (Or.inr hm)
      go_enter Try.func19, Try.ntmps19
      go_wp2_with (first | (go_at_call 15; refine (refKind_any _ ?_ _).mono ?_; assumption; rintro e w' ⟨rfl, rfl⟩) | (go_at_call 20; refine (refOrder_any _ _ ?_ ?_ _).mono ?_; assumption; assumption; rintro e w' ⟨rfl, rfl⟩) | (go_at_call 17; refine (refClean_any _ ?_ _).mono ?_; assumption; rintro e w' ⟨rfl, rfl⟩))
      go_ret
      exact ⟨ret_int hc.out.symm, rfl⟩
  · rw [hn] at k1
    have hc : Hid (cmpF x y = 2) := cmpF_nan (Or.inl hn)
    go_enter Try.func19, Try.ntmps19
    go_wp2_with (first | (go_at_call 15; refine (refKind_any _ ?_ _).mono ?_; assumption; rintro e w' ⟨rfl, rfl⟩) | (go_at_call 20; refine (refOrder_any _ _ ?_ ?_ _).mono ?_; assumption; assumption; rintro e w' ⟨rfl, rfl⟩) | (go_at_call 17; refine (refClean_any _ ?_ _).mono ?_; assumption; rintro e w' ⟨rfl, rfl⟩))
    go_ret
    exact ⟨ret_int hc.out.symm, rfl⟩

theorem refOp_arith (op : BinOp) (k : Int) (a b : Nat) (w : World) (hop : op = .add ∨ op = .sub ∨ op = .mul ∨ op = .quo) (hk : opF k a b = (floatBits op .f64 a b).getD nanW) (hr : ∀ r, floatBits op .f64 a b = some r → isNan r = false) :
    ∃ z w', (∀ t, (binOp op t (.float .f64 a) (.float .f64 b)).run Try.prog w = .ok (.float .f64 z) w') ∧ Wd z ∧ cleanF z = opF k a b ∧ Grown w w' := by
  cases h : floatBits op .f64 a b with
  | none =>
    refine ⟨nanOf a b w, w.drew, fun t => arith_none op t a b w hop h, ?_, ?_, (Grown.refl w).drew⟩
    · unfold nanOf
      generalize w.tape w.drawn (.nanBits .f64 a b) = t
      show (t % 2) * 2 ^ 63 + 0x7ff0000000000000 + 1 + (t / 2) % (2 ^ 52 - 1) < 18446744073709551616
      have hu : (t / 2) % (2 ^ 52 - 1) < 4503599627370495 := Nat.mod_lt _ (by decide)
      have hv : t % 2 = 0 ∨ t % 2 = 1 := by omega
      generalize (t / 2) % (2 ^ 52 - 1) = u at *
      rcases hv with e | e <;> rw [e] <;> omega
    · rw [clean_nan (nanOf_nan a b w), hk, h]; rfl
  | some r =>
    refine ⟨r, w, fun t => run_float_arith w op t .f64 a b r h, ?_, ?_, Grown.refl w⟩
    · have := floatBits_wf h
      simp only [Lit.wf, decide_eq_true_eq] at this
      exact this
    · rw [clean_num (hr r h), hk, h]; rfl

set_option maxHeartbeats 1000000 in
theorem refOp_any (k : Int) (a b : Nat) (ha : Wd a) (hb : Wd b) (w : World) :
    Calls Try.prog 18 #[.int .i64 k, .int .u64 a, .int .u64 b] w fun e w' => e = .returned (.int .u64 (opF k a b)) ∧ Grown w w' := by
  have h1 := frombits_run
  have h2 := bits_run
  by_cases k1 : k = 1
  · subst k1
    obtain ⟨z, w1, hz, hwz, hcl, hg⟩ := refOp_arith .add 1 a b w (by simp) rfl (res_cases _ (add_res a b)).2
    have HC : Hid (cleanF z = opF 1 a b) := hcl
    clear hcl
    go_enter Try.func18, Try.ntmps18
    go_wp2_with (first | (go_at_call 15; refine (refKind_any _ ?_ _).mono ?_; assumption; rintro e w' ⟨rfl, rfl⟩) | (go_at_call 20; refine (refOrder_any _ _ ?_ ?_ _).mono ?_; assumption; assumption; rintro e w' ⟨rfl, rfl⟩) | (go_at_call 17; refine (refClean_any _ ?_ _).mono ?_; assumption; rintro e w' ⟨rfl, rfl⟩))
    go_ret
    exact ⟨ret_int (by rw [← HC.out]), hg⟩
  · by_cases k2 : k = 2
    · subst k2
      obtain ⟨z, w1, hz, hwz, hcl, hg⟩ := refOp_arith .sub 2 a b w (by simp) rfl (res_cases _ (sub_res a b)).2
      have HC : Hid (cleanF z = opF 2 a b) := hcl
      clear hcl
      go_enter Try.func18, Try.ntmps18
      go_wp2_with (first | (go_at_call 15; refine (refKind_any _ ?_ _).mono ?_; assumption; rintro e w' ⟨rfl, rfl⟩) | (go_at_call 20; refine (refOrder_any _ _ ?_ ?_ _).mono ?_; assumption; assumption; rintro e w' ⟨rfl, rfl⟩) | (go_at_call 17; refine (refClean_any _ ?_ _).mono ?_; assumption; rintro e w' ⟨rfl, rfl⟩))
      go_ret
      exact ⟨ret_int (by rw [← HC.out]), hg⟩
    · by_cases k3 : k = 3
      · subst k3
        obtain ⟨z, w1, hz, hwz, hcl, hg⟩ := refOp_arith .mul 3 a b w (by simp) rfl (res_cases _ (mul_res a b)).2
        have HC : Hid (cleanF z = opF 3 a b) := hcl
        clear hcl
        go_enter Try.func18, Try.ntmps18
        go_wp2_with (first | (go_at_call 15; refine (refKind_any _ ?_ _).mono ?_; assumption; rintro e w' ⟨rfl, rfl⟩) | (go_at_call 20; refine (refOrder_any _ _ ?_ ?_ _).mono ?_; assumption; assumption; rintro e w' ⟨rfl, rfl⟩) | (go_at_call 17; refine (refClean_any _ ?_ _).mono ?_; assumption; rintro e w' ⟨rfl, rfl⟩))
        go_ret
        exact ⟨ret_int (by rw [← HC.out]), hg⟩
      · by_cases k4 : k = 4
        · subst k4
          obtain ⟨z, w1, hz, hwz, hcl, hg⟩ := refOp_arith .quo 4 a b w (by simp) rfl (res_cases _ (div_res a b)).2
          have HC : Hid (cleanF z = opF 4 a b) := hcl
          clear hcl
          go_enter Try.func18, Try.ntmps18
          go_wp2_with (first | (go_at_call 15; refine (refKind_any _ ?_ _).mono ?_; assumption; rintro e w' ⟨rfl, rfl⟩) | (go_at_call 20; refine (refOrder_any _ _ ?_ ?_ _).mono ?_; assumption; assumption; rintro e w' ⟨rfl, rfl⟩) | (go_at_call 17; refine (refClean_any _ ?_ _).mono ?_; assumption; rintro e w' ⟨rfl, rfl⟩))
          go_ret
          exact ⟨ret_int (by rw [← HC.out]), hg⟩
        · by_cases k5 : k = 5
          · subst k5
            by_cases ho : orderF a b ≤ 0
            · have HC : Hid (opF 5 a b = cleanF a) := by show _ = _; rw [op_min]; unfold firstF; rw [if_pos ho]
              go_enter Try.func18, Try.ntmps18
              go_wp2_with (first | (go_at_call 15; refine (refKind_any _ ?_ _).mono ?_; assumption; rintro e w' ⟨rfl, rfl⟩) | (go_at_call 20; refine (refOrder_any _ _ ?_ ?_ _).mono ?_; assumption; assumption; rintro e w' ⟨rfl, rfl⟩) | (go_at_call 17; refine (refClean_any _ ?_ _).mono ?_; assumption; rintro e w' ⟨rfl, rfl⟩))
              go_ret
              exact ⟨ret_int (by rw [HC.out]), Grown.refl _⟩
            · have HC : Hid (opF 5 a b = cleanF b) := by show _ = _; rw [op_min]; unfold firstF; rw [if_neg ho]
              go_enter Try.func18, Try.ntmps18
              go_wp2_with (first | (go_at_call 15; refine (refKind_any _ ?_ _).mono ?_; assumption; rintro e w' ⟨rfl, rfl⟩) | (go_at_call 20; refine (refOrder_any _ _ ?_ ?_ _).mono ?_; assumption; assumption; rintro e w' ⟨rfl, rfl⟩) | (go_at_call 17; refine (refClean_any _ ?_ _).mono ?_; assumption; rintro e w' ⟨rfl, rfl⟩))
              go_ret
              exact ⟨ret_int (by rw [HC.out]), Grown.refl _⟩
          · by_cases k6 : k = 6
            · subst k6
              have q1 := kind_nan_b a
              have q2 := kind_nan_b b
              have HL : Hid (opF 6 a b = cleanF (if isNan a then b else if isNan b then a else if 0 ≤ orderF a b then a else b)) := op_max a b
              cases hn : isNan a
              · rw [hn] at q1
                have ca := clean_num hn
                cases hm : isNan b
                · rw [hm] at q2
                  have cb := clean_num hm
                  by_cases ho : 0 ≤ orderF a b
                  · have HC : Hid (opF 6 a b = a) := by show _ = _; rw [HL.out, hn, hm, if_neg (by decide), if_neg (by decide), if_pos ho, ca]
                    clear HL
                    go_enter Try.func18, Try.ntmps18
                    go_wp2_with (first | (go_at_call 15; refine (refKind_any _ ?_ _).mono ?_; assumption; rintro e w' ⟨rfl, rfl⟩) | (go_at_call 20; refine (refOrder_any _ _ ?_ ?_ _).mono ?_; assumption; assumption; rintro e w' ⟨rfl, rfl⟩) | (go_at_call 17; refine (refClean_any _ ?_ _).mono ?_; assumption; rintro e w' ⟨rfl, rfl⟩))
                    go_ret
                    exact ⟨ret_int (by rw [HC.out]), Grown.refl _⟩
                  · have HC : Hid (opF 6 a b = b) := by show _ = _; rw [HL.out, hn, hm, if_neg (by decide), if_neg (by decide), if_neg ho, cb]
                    clear HL
                    go_enter Try.func18, Try.ntmps18
                    go_wp2_with (first | (go_at_call 15; refine (refKind_any _ ?_ _).mono ?_; assumption; rintro e w' ⟨rfl, rfl⟩) | (go_at_call 20; refine (refOrder_any _ _ ?_ ?_ _).mono ?_; assumption; assumption; rintro e w' ⟨rfl, rfl⟩) | (go_at_call 17; refine (refClean_any _ ?_ _).mono ?_; assumption; rintro e w' ⟨rfl, rfl⟩))
                    go_ret
                    exact ⟨ret_int (by rw [HC.out]), Grown.refl _⟩
                · rw [hm] at q2
                  have HC : Hid (opF 6 a b = a) := by show _ = _; rw [HL.out, hn, hm, if_neg (by decide), if_pos rfl, ca]
                  clear HL
                  go_enter Try.func18, Try.ntmps18
                  go_wp2_with (first | (go_at_call 15; refine (refKind_any _ ?_ _).mono ?_; assumption; rintro e w' ⟨rfl, rfl⟩) | (go_at_call 20; refine (refOrder_any _ _ ?_ ?_ _).mono ?_; assumption; assumption; rintro e w' ⟨rfl, rfl⟩) | (go_at_call 17; refine (refClean_any _ ?_ _).mono ?_; assumption; rintro e w' ⟨rfl, rfl⟩))
                  go_ret
                  exact ⟨ret_int (by rw [HC.out]), Grown.refl _⟩
              · rw [hn] at q1
                have HC : Hid (opF 6 a b = cleanF b) := by show _ = _; rw [HL.out, hn, if_pos rfl]
                clear HL
                go_enter Try.func18, Try.ntmps18
                go_wp2_with (first | (go_at_call 15; refine (refKind_any _ ?_ _).mono ?_; assumption; rintro e w' ⟨rfl, rfl⟩) | (go_at_call 20; refine (refOrder_any _ _ ?_ ?_ _).mono ?_; assumption; assumption; rintro e w' ⟨rfl, rfl⟩) | (go_at_call 17; refine (refClean_any _ ?_ _).mono ?_; assumption; rintro e w' ⟨rfl, rfl⟩))
                go_ret
                exact ⟨ret_int (by rw [HC.out]), Grown.refl _⟩
            · have hf : Hid (opF k a b = nanW) := by show _ = _; unfold opF; rw [if_neg k1, if_neg k2, if_neg k3, if_neg k4, if_neg k5, if_neg k6]
              have t1 : (k == 1) = false := by simp [k1]
              have t2 : (k == 2) = false := by simp [k2]
              have t3 : (k == 3) = false := by simp [k3]
              have t4 : (k == 4) = false := by simp [k4]
              have t5 : (k == 5) = false := by simp [k5]
              have t6 : (k == 6) = false := by simp [k6]
              clear k1 k2 k3 k4 k5 k6
              go_enter Try.func18, Try.ntmps18
              go_wp2_with (first | (go_at_call 15; refine (refKind_any _ ?_ _).mono ?_; assumption; rintro e w' ⟨rfl, rfl⟩) | (go_at_call 20; refine (refOrder_any _ _ ?_ ?_ _).mono ?_; assumption; assumption; rintro e w' ⟨rfl, rfl⟩) | (go_at_call 17; refine (refClean_any _ ?_ _).mono ?_; assumption; rintro e w' ⟨rfl, rfl⟩))
              go_ret
              exact ⟨ret_int (by rw [hf.out]; rfl), Grown.refl _⟩

end Go.Proofs.Ytednckjhgijekaa
