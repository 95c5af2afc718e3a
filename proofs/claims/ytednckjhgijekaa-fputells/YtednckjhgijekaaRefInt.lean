/- What the document's own Int and Of do when they are called: the same as package fpu's. -/
import Derived.Test.YtednckjhgijekaaRef
import Derived.Test.YtednckjhgijekaaIntFacts
import Derived.Test.YtednckjhgijekaaOfWalk
namespace Go.Proofs.Ytednckjhgijekaa
open Go.RowKit
open Fp

set_option maxRecDepth 100000 in
set_option maxHeartbeats 400000 in
theorem refOf_any (n : Int) (w : World) : Calls Try.prog 22 #[.int .i64 n] w fun e w' => e = .returned (.int .u64 (ofF n)) ∧ w' = w := by
  have h2 := bits_run
  have h3 := of_eq n
  go_enter Try.func22, Try.ntmps22
  go_wp2
  go_ret
  exact ⟨rfl, rfl⟩

theorem tr_mid {r : Nat} (h1 : 1075 ≤ r / 4503599627370496) : tr r = (r % 4503599627370496 + 4503599627370496) * 2 ^ (r / 4503599627370496 - 1075) := by
  have hm : mant r = r % 4503599627370496 + 4503599627370496 := by unfold mant ex; omega
  have he : ex r = r / 4503599627370496 - 1 := rfl
  unfold tr val
  rw [unit_over (e := ex r) (by omega), ← Nat.mul_assoc, Nat.mul_div_cancel _ unit_pos, hm, he]
  have e : r / 4503599627370496 - 1 - 1074 = r / 4503599627370496 - 1075 := by omega
  rw [e]
theorem tr_low {r : Nat} (h0 : 1 ≤ r / 4503599627370496) (h1 : r / 4503599627370496 < 1075) : tr r = (r % 4503599627370496 + 4503599627370496) / 2 ^ (1075 - r / 4503599627370496) := by
  have hm : mant r = r % 4503599627370496 + 4503599627370496 := by unfold mant ex; omega
  have he : ex r = r / 4503599627370496 - 1 := rfl
  unfold tr val
  rw [unit_split (e := ex r) (by omega), Nat.mul_div_mul_right _ _ (Nat.two_pow_pos _), hm, he]
  congr 2
  omega
def pl4 : Nat := 1022
theorem tr_none {r : Nat} (h : r < 4607182418800017408) : tr r = 0 := by
  have hv := val_lt h
  have e : val 4607182418800017408 = unit := by
    have e1 : ex 4607182418800017408 = pl4 := by decide
    have e2 : mant 4607182418800017408 = 2 ^ (1074 - pl4) := by decide
    have e3 : pl4 ≤ 1074 := by decide
    unfold val
    rw [e1, e2, ← unit_split e3]
  rw [e] at hv
  unfold tr
  exact Nat.div_eq_of_lt hv

theorem int_word {x : Nat} (hx : x < 18446744073709551616) (h : rung x < 4890909195324358656) : intN x = (if sgn x then -(tr (rung x) : Int) else tr (rung x)) ∧ intOk x = true := by
  have := int_in (s := sgn x) h
  rw [mk_of x hx] at this
  exact this

theorem wrap_small {t : Nat} (h : t < 9223372036854775808) : wrap64 (IntKind.u64.wrap (t : Int)) = t ∧ wrap64 (t : Int) = t ∧ wrap64 (-(t : Int)) = -(t : Int) := by
  rw [IntKind.wrap_u64]
  unfold wrap64
  omega

theorem ret_two {a b : Int} {c d : Bool} (h : a = b) (g : c = d) : Ending.returned (.tuple #[.int .i64 a, .bool c]) = .returned (.tuple #[.int .i64 b, .bool d]) := by rw [h, g]

theorem or_mant (M : Nat) (h : M < 4503599627370496) : bits .or .u64 (M : Int) 4503599627370496 = ((M + 4503599627370496 : Nat) : Int) := by
  have h2 := u64_or_nat M 4503599627370496 (by omega) (by decide)
  rw [show ((4503599627370496 : Nat) : Int) = 4503599627370496 from rfl] at h2
  rw [h2]
  congr 1
  rw [Nat.or_comm, Nat.add_comm]
  exact nat_join 52 _ _ (by decide) h

set_option maxRecDepth 100000 in
set_option maxHeartbeats 1000000 in
theorem ri_nan (x : Nat) (hx : Wd x) (hk : (kindF x == 1) = true) (HN : Hid (intN x = 0)) (HO : Hid (intOk x = false)) (w : World) : Calls Try.prog 13 #[.int .u64 x] w fun e w' => e = .returned (.tuple #[.int .i64 (intN x), .bool (intOk x)]) ∧ w' = w := by
  go_enter Try.func13, Try.ntmps13
  go_wp2_with (go_at_call 15; refine (refKind_any _ ?_ _).mono ?_; assumption; rintro e w' ⟨rfl, rfl⟩)
  go_ret2
  exact ⟨ret_two HN.out.symm HO.out.symm, rfl⟩

set_option maxRecDepth 100000 in
set_option maxHeartbeats 1000000 in
theorem ri_none (x E M : Nat) (hx : Wd x) (f1 : bits .and .u64 ((x : Int) / 4503599627370496) 2047 = (E : Int)) (f2 : bits .and .u64 (x : Int) 4503599627370495 = (M : Int)) (f3 : bits .or .u64 (M : Int) 4503599627370496 = ((M + 4503599627370496 : Nat) : Int)) (hk : (kindF x == 1) = false) (hE : (E : Int) < 1023) (HN : Hid (intN x = 0)) (HO : Hid (intOk x = true)) (w : World) : Calls Try.prog 13 #[.int .u64 x] w fun e w' => e = .returned (.tuple #[.int .i64 (intN x), .bool (intOk x)]) ∧ w' = w := by
  go_enter Try.func13, Try.ntmps13
  go_wp2_with (go_at_call 15; refine (refKind_any _ ?_ _).mono ?_; assumption; rintro e w' ⟨rfl, rfl⟩)
  go_ret2
  exact ⟨ret_two HN.out.symm HO.out.symm, rfl⟩

set_option maxRecDepth 100000 in
set_option maxHeartbeats 1000000 in
theorem ri_big (x E M : Nat) (hx : Wd x) (f1 : bits .and .u64 ((x : Int) / 4503599627370496) 2047 = (E : Int)) (f2 : bits .and .u64 (x : Int) 4503599627370495 = (M : Int)) (f3 : bits .or .u64 (M : Int) 4503599627370496 = ((M + 4503599627370496 : Nat) : Int)) (hk : (kindF x == 1) = false) (hs : ((x : Int) / 9223372036854775808 == 1) = false) (hE : 1085 < (E : Int)) (hEu : (E : Int) ≤ 2047) (HN : Hid (intN x = 9223372036854775807)) (HO : Hid (intOk x = false)) (w : World) : Calls Try.prog 13 #[.int .u64 x] w fun e w' => e = .returned (.tuple #[.int .i64 (intN x), .bool (intOk x)]) ∧ w' = w := by
  go_enter Try.func13, Try.ntmps13
  go_wp2_with (go_at_call 15; refine (refKind_any _ ?_ _).mono ?_; assumption; rintro e w' ⟨rfl, rfl⟩)
  go_ret2
  exact ⟨ret_two HN.out.symm HO.out.symm, rfl⟩

set_option maxRecDepth 100000 in
set_option maxHeartbeats 1000000 in
theorem ri_least (x E M : Nat) (hx : Wd x) (f1 : bits .and .u64 ((x : Int) / 4503599627370496) 2047 = (E : Int)) (f2 : bits .and .u64 (x : Int) 4503599627370495 = (M : Int)) (f3 : bits .or .u64 (M : Int) 4503599627370496 = ((M + 4503599627370496 : Nat) : Int)) (hk : (kindF x == 1) = false) (hs : ((x : Int) / 9223372036854775808 == 1) = true) (hE : 1085 < (E : Int)) (hEu : (E : Int) ≤ 2047) (hxb : ((x : Int) == 14114281232179134464) = true) (HN : Hid (intN x = -9223372036854775808)) (HO : Hid (intOk x = true)) (w : World) : Calls Try.prog 13 #[.int .u64 x] w fun e w' => e = .returned (.tuple #[.int .i64 (intN x), .bool (intOk x)]) ∧ w' = w := by
  go_enter Try.func13, Try.ntmps13
  go_wp2_with (go_at_call 15; refine (refKind_any _ ?_ _).mono ?_; assumption; rintro e w' ⟨rfl, rfl⟩)
  go_ret2
  exact ⟨ret_two HN.out.symm HO.out.symm, rfl⟩

set_option maxRecDepth 100000 in
set_option maxHeartbeats 1000000 in
theorem ri_below (x E M : Nat) (hx : Wd x) (f1 : bits .and .u64 ((x : Int) / 4503599627370496) 2047 = (E : Int)) (f2 : bits .and .u64 (x : Int) 4503599627370495 = (M : Int)) (f3 : bits .or .u64 (M : Int) 4503599627370496 = ((M + 4503599627370496 : Nat) : Int)) (hk : (kindF x == 1) = false) (hs : ((x : Int) / 9223372036854775808 == 1) = true) (hE : 1085 < (E : Int)) (hEu : (E : Int) ≤ 2047) (hxb : ((x : Int) == 14114281232179134464) = false) (HN : Hid (intN x = -9223372036854775808)) (HO : Hid (intOk x = false)) (w : World) : Calls Try.prog 13 #[.int .u64 x] w fun e w' => e = .returned (.tuple #[.int .i64 (intN x), .bool (intOk x)]) ∧ w' = w := by
  go_enter Try.func13, Try.ntmps13
  go_wp2_with (go_at_call 15; refine (refKind_any _ ?_ _).mono ?_; assumption; rintro e w' ⟨rfl, rfl⟩)
  go_ret2
  exact ⟨ret_two HN.out.symm HO.out.symm, rfl⟩

set_option maxRecDepth 100000 in
set_option maxHeartbeats 1000000 in
theorem ri_mid_pos (x E M : Nat) (hx : Wd x) (f1 : bits .and .u64 ((x : Int) / 4503599627370496) 2047 = (E : Int)) (f2 : bits .and .u64 (x : Int) 4503599627370495 = (M : Int)) (f3 : bits .or .u64 (M : Int) 4503599627370496 = ((M + 4503599627370496 : Nat) : Int)) (hk : (kindF x == 1) = false) (T : Nat) (hE : 1075 ≤ (E : Int)) (hEu : (E : Int) ≤ 1085) (HT : Hid ((T : Int) = ((M : Int) + 4503599627370496) * 2 ^ (E - 1075))) (V1 : Hid (wrap64 (IntKind.u64.wrap (T : Int)) = T)) (HO : Hid (intOk x = true)) (hs : ((x : Int) / 9223372036854775808 == 1) = false) (HN : Hid (intN x = T)) (w : World) : Calls Try.prog 13 #[.int .u64 x] w fun e w' => e = .returned (.tuple #[.int .i64 (intN x), .bool (intOk x)]) ∧ w' = w := by
  go_enter Try.func13, Try.ntmps13
  go_wp2_with (go_at_call 15; refine (refKind_any _ ?_ _).mono ?_; assumption; rintro e w' ⟨rfl, rfl⟩)
  go_ret2
  exact ⟨ret_two (by rw [← HT.out, V1.out, HN.out]) HO.out.symm, rfl⟩

set_option maxRecDepth 100000 in
set_option maxHeartbeats 1000000 in
theorem ri_mid_neg (x E M : Nat) (hx : Wd x) (f1 : bits .and .u64 ((x : Int) / 4503599627370496) 2047 = (E : Int)) (f2 : bits .and .u64 (x : Int) 4503599627370495 = (M : Int)) (f3 : bits .or .u64 (M : Int) 4503599627370496 = ((M + 4503599627370496 : Nat) : Int)) (hk : (kindF x == 1) = false) (T : Nat) (hE : 1075 ≤ (E : Int)) (hEu : (E : Int) ≤ 1085) (HT : Hid ((T : Int) = ((M : Int) + 4503599627370496) * 2 ^ (E - 1075))) (V1 : Hid (wrap64 (IntKind.u64.wrap (T : Int)) = T)) (V3 : Hid (wrap64 (-(T : Int)) = -(T : Int))) (HO : Hid (intOk x = true)) (hs : ((x : Int) / 9223372036854775808 == 1) = true) (HN : Hid (intN x = -(T : Int))) (w : World) : Calls Try.prog 13 #[.int .u64 x] w fun e w' => e = .returned (.tuple #[.int .i64 (intN x), .bool (intOk x)]) ∧ w' = w := by
  go_enter Try.func13, Try.ntmps13
  go_wp2_with (go_at_call 15; refine (refKind_any _ ?_ _).mono ?_; assumption; rintro e w' ⟨rfl, rfl⟩)
  go_ret2
  exact ⟨ret_two (by rw [← HT.out, V1.out, V3.out, HN.out]) HO.out.symm, rfl⟩

set_option maxRecDepth 100000 in
set_option maxHeartbeats 1000000 in
theorem ri_low_pos (x E M : Nat) (hx : Wd x) (f1 : bits .and .u64 ((x : Int) / 4503599627370496) 2047 = (E : Int)) (f2 : bits .and .u64 (x : Int) 4503599627370495 = (M : Int)) (f3 : bits .or .u64 (M : Int) 4503599627370496 = ((M + 4503599627370496 : Nat) : Int)) (hk : (kindF x == 1) = false) (T : Nat) (hE : 1023 ≤ (E : Int)) (hEu : (E : Int) < 1075) (HT : Hid ((T : Int) = ((M : Int) + 4503599627370496) / 2 ^ (-((E : Int) - 1075)).toNat)) (V2 : Hid (wrap64 (T : Int) = T)) (HO : Hid (intOk x = true)) (hs : ((x : Int) / 9223372036854775808 == 1) = false) (HN : Hid (intN x = T)) (w : World) : Calls Try.prog 13 #[.int .u64 x] w fun e w' => e = .returned (.tuple #[.int .i64 (intN x), .bool (intOk x)]) ∧ w' = w := by
  go_enter Try.func13, Try.ntmps13
  go_wp2_with (go_at_call 15; refine (refKind_any _ ?_ _).mono ?_; assumption; rintro e w' ⟨rfl, rfl⟩)
  go_ret2
  exact ⟨ret_two (by rw [← HT.out, V2.out, HN.out]) HO.out.symm, rfl⟩

set_option maxRecDepth 100000 in
set_option maxHeartbeats 1000000 in
theorem ri_low_neg (x E M : Nat) (hx : Wd x) (f1 : bits .and .u64 ((x : Int) / 4503599627370496) 2047 = (E : Int)) (f2 : bits .and .u64 (x : Int) 4503599627370495 = (M : Int)) (f3 : bits .or .u64 (M : Int) 4503599627370496 = ((M + 4503599627370496 : Nat) : Int)) (hk : (kindF x == 1) = false) (T : Nat) (hE : 1023 ≤ (E : Int)) (hEu : (E : Int) < 1075) (HT : Hid ((T : Int) = ((M : Int) + 4503599627370496) / 2 ^ (-((E : Int) - 1075)).toNat)) (V2 : Hid (wrap64 (T : Int) = T)) (V3 : Hid (wrap64 (-(T : Int)) = -(T : Int))) (HO : Hid (intOk x = true)) (hs : ((x : Int) / 9223372036854775808 == 1) = true) (HN : Hid (intN x = -(T : Int))) (w : World) : Calls Try.prog 13 #[.int .u64 x] w fun e w' => e = .returned (.tuple #[.int .i64 (intN x), .bool (intOk x)]) ∧ w' = w := by
  go_enter Try.func13, Try.ntmps13
  go_wp2_with (go_at_call 15; refine (refKind_any _ ?_ _).mono ?_; assumption; rintro e w' ⟨rfl, rfl⟩)
  go_ret2
  exact ⟨ret_two (by rw [← HT.out, V2.out, V3.out, HN.out]) HO.out.symm, rfl⟩

theorem refInt_any (x : Nat) (hx : Wd x) (w : World) : Calls Try.prog 13 #[.int .u64 x] w fun e w' => e = .returned (.tuple #[.int .i64 (intN x), .bool (intOk x)]) ∧ w' = w := by
  have f1 := field_e x hx
  have f2 := field_m x hx
  have f3 := or_mant (rung x % 4503599627370496) (Nat.mod_lt _ (by decide))
  have hk := kind_nan_b x
  have hs := sign_div x hx
  have hrl := rung_lt x
  have hi : inf = 9218868437227405312 := rfl
  have c2 : ((2 : Nat) : Int) = 2 := rfl
  have c52 : ((4503599627370496 : Nat) : Int) = 4503599627370496 := rfl
  cases hn : isNan x
  · rw [hn] at hk
    by_cases hE1 : rung x / 4503599627370496 < 1023
    · obtain ⟨hN, hO⟩ := int_word hx (by omega)
      rw [tr_none (by omega)] at hN
      have hN0 : intN x = 0 := hN.trans (by split <;> rfl)
      exact ri_none x _ _ hx f1 f2 f3 hk (by omega) hN0 hO w
    · by_cases hE2 : 1085 < rung x / 4503599627370496
      · have hkey : key x = if sgn x then -(rung x : Int) else rung x := rfl
        cases hsg : sgn x
        · rw [hsg] at hs hkey
          simp only [Bool.false_eq_true, if_false] at hkey
          have hb : big x = true := by unfold big; rw [hn, hkey]; simp; omega
          have HN : intN x = 9223372036854775807 := by unfold intN; rw [hn, hb]; rfl
          have HO : intOk x = false := by unfold intOk; rw [hn, hb]; rfl
          exact ri_big x _ _ hx f1 f2 f3 hk hs (by omega) (by omega) HN HO w
        · rw [hsg] at hs hkey
          simp only [if_true] at hkey
          have hm := mk_of x hx
          rw [hsg] at hm
          unfold mk at hm
          simp only [if_true] at hm
          have hb : big x = false := by unfold big; rw [hn, hkey]; simp; omega
          by_cases hx0 : x = 14114281232179134464
          · have hr0 : rung x = 4890909195324358656 := by omega
            have hl : low x = false := by unfold low; rw [hn, hkey, hr0]; simp
            have HN : intN x = -9223372036854775808 := by
              unfold intN strunc; rw [hn, hb, hl, hsg, hr0, tr_top]; rfl
            have HO : intOk x = true := by unfold intOk; rw [hn, hb, hl]; rfl
            exact ri_least x _ _ hx f1 f2 f3 hk hs (by omega) (by omega) (by rw [beq_iff_eq]; omega) HN HO w
          · have hl : low x = true := by unfold low; rw [hn, hkey]; simp; omega
            have HN : intN x = -9223372036854775808 := by unfold intN; rw [hn, hb, hl]; rfl
            have HO : intOk x = false := by unfold intOk; rw [hn, hb, hl]; rfl
            exact ri_below x _ _ hx f1 f2 f3 hk hs (by omega) (by omega) (by rw [beq_eq_false_iff_ne]; omega) HN HO w
      · have hlt : rung x < 4890909195324358656 := by omega
        obtain ⟨hN, hO⟩ := int_word hx hlt
        obtain ⟨v1, v2, v3⟩ := wrap_small (tr_lt hlt)
        by_cases hE3 : 1075 ≤ rung x / 4503599627370496
        · have HT : ((tr (rung x) : Nat) : Int) = (((rung x % 4503599627370496 : Nat) : Int) + 4503599627370496) * 2 ^ (rung x / 4503599627370496 - 1075) := by
            rw [tr_mid hE3, Int.natCast_mul, Int.natCast_add, Int.natCast_pow, c2, c52]
          cases hsg : sgn x
          · rw [hsg] at hs hN
            simp only [Bool.false_eq_true, if_false] at hN
            exact ri_mid_pos x _ _ hx f1 f2 f3 hk _ (by omega) (by omega) HT v1 hO hs hN w
          · rw [hsg] at hs hN
            simp only [if_true] at hN
            exact ri_mid_neg x _ _ hx f1 f2 f3 hk _ (by omega) (by omega) HT v1 v3 hO hs hN w
        · have hexp : (-(((rung x / 4503599627370496 : Nat) : Int) - 1075)).toNat = 1075 - rung x / 4503599627370496 := by omega
          have HT : ((tr (rung x) : Nat) : Int) = (((rung x % 4503599627370496 : Nat) : Int) + 4503599627370496) / 2 ^ (-(((rung x / 4503599627370496 : Nat) : Int) - 1075)).toNat := by
            rw [tr_low (r := rung x) (by omega) (by omega), hexp, Int.natCast_ediv, Int.natCast_add, Int.natCast_pow, c2, c52]
          cases hsg : sgn x
          · rw [hsg] at hs hN
            simp only [Bool.false_eq_true, if_false] at hN
            exact ri_low_pos x _ _ hx f1 f2 f3 hk _ (by omega) (by omega) HT v2 hO hs hN w
          · rw [hsg] at hs hN
            simp only [if_true] at hN
            exact ri_low_neg x _ _ hx f1 f2 f3 hk _ (by omega) (by omega) HT v2 v3 hO hs hN w
  · rw [hn] at hk
    have HN : intN x = 0 := by unfold intN; rw [hn]; rfl
    have HO : intOk x = false := by unfold intOk; rw [hn]; rfl
    exact ri_nan x hx hk HN HO w
end Go.Proofs.Ytednckjhgijekaa
