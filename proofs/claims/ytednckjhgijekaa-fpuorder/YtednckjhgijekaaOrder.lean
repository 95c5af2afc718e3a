/- What FpuOrder does when it is called: it returns true on all triples of words. -/
import Derived.Test.YtednckjhgijekaaOpWalk
import Derived.Test.YtednckjhgijekaaFacts
namespace Go.Proofs.Ytednckjhgijekaa
open Go.RowKit
open Fp

theorem clean_same {a b : Nat} (ha : Wd a) (hb : Wd b) (h : okey a = okey b) : (((cleanF a : Nat) : Int) == ((cleanF b : Nat) : Int)) = true := by
  rw [(okey_inj ha hb).1 h]; simp
theorem clean_other {a b : Nat} (ha : Wd a) (hb : Wd b) (h : okey a ≠ okey b) : (((cleanF a : Nat) : Int) == ((cleanF b : Nat) : Int)) = false := by
  rw [beq_eq_false_iff_ne]
  intro e
  exact h ((okey_inj ha hb).2 (by omega))

/-- what of kinds, comparison, least and greatest the statement asks: beside a NaN -/
theorem nan_facts {a b : Nat} (h : isNan a = true ∨ isNan b = true) : ∃ C : Nat, cmpF a b = 2 ∧ opF 5 a b = C ∧ opF 6 a b = C ∧ opF 5 b a = C ∧ opF 6 b a = C := by
  cases ha : isNan a
  · have hb : isNan b = true := by rw [ha] at h; simpa using h
    exact ⟨cleanF a, cmpF_nan (Or.inr hb), (minmax_nan (Or.inl rfl) hb).2, (minmax_nan (Or.inr rfl) hb).2, (minmax_nan (Or.inl rfl) hb).1, (minmax_nan (Or.inr rfl) hb).1⟩
  · exact ⟨cleanF b, cmpF_nan (Or.inl ha), (minmax_nan (Or.inl rfl) ha).1, (minmax_nan (Or.inr rfl) ha).1, (minmax_nan (Or.inl rfl) ha).2, (minmax_nan (Or.inr rfl) ha).2⟩

theorem zero_or (a b : Nat) (na : isNan a = false) (nb : isNan b = false) : ((kindF a == 3) = true ∧ (kindF b == 3) = true ∧ cmpF a b = 0) ∨ ((kindF a == 3) = true ∧ (kindF b == 3) = false ∧ cmpF a b = orderF a b) ∨ ((kindF a == 3) = false ∧ cmpF a b = orderF a b) := by
  simp only [beq_iff_eq, beq_eq_false_iff_ne, ne_eq, kind_is_zero]
  by_cases h1 : rung a = 0
  · by_cases h2 : rung b = 0
    · exact Or.inl ⟨h1, h2, cmp_zeros h1 h2⟩
    · exact Or.inr (Or.inl ⟨h1, h2, cmp_other na nb (fun h => h2 h.2)⟩)
  · exact Or.inr (Or.inr ⟨h1, cmp_other na nb (fun h => h1 h.1)⟩)

theorem kind_num {x : Nat} (h : isNan x = false) : (kindF x == 1) = false := by
  rw [beq_eq_false_iff_ne]; intro e; rw [kind_nan, h] at e; cases e
theorem kind_of_nan {x : Nat} (h : isNan x = true) : (kindF x == 1) = true ∧ (kindF x == 3) = false := by
  have e := kind_nan.2 h
  rw [e]; exact ⟨rfl, rfl⟩

set_option maxRecDepth 100000 in
set_option maxHeartbeats 1000000 in
theorem order_law_any (a b c : Nat) (ha : Wd a) (hb : Wd b) (hc : Wd c) (w : World) :
    Calls Try.prog 6 #[.int .u64 a, .int .u64 b, .int .u64 c] w fun e w' => e = .returned (.bool true) ∧ Grown w w' := by
  have hg := Grown.refl w
  obtain ⟨x0, hx⟩ := order_facts a b c
  cases na : isNan a
  · cases nb : isNan b
    · have k1 := kind_num na
      have k2 := kind_num nb
      rcases hx with ⟨x1, x2, x3⟩ | ⟨x1, x2, x3, x4⟩ | ⟨x1, x2, x3, x4⟩
      · have e1 := clean_other ha hb (by omega)
        have f1 : ((b : Int) == (a : Int)) = false := by
          rw [beq_eq_false_iff_ne]; intro e
          have : b = a := by omega
          rw [this] at x3; omega
        have m1 : opF 5 a b = b := by rw [min_num na nb, x1, if_neg (by decide)]
        have m2 : opF 6 a b = a := by rw [max_num na nb, x1, if_pos (by decide)]
        have hz := zero_or a b na nb
        rw [x1] at hz
        clear na nb x3
        rcases hz with ⟨z1, z2, w1⟩ | ⟨z1, z2, w1⟩ | ⟨z1, w1⟩
        all_goals
          go_enter Try.func6, Try.ntmps6
          go_wp2_with (first | (go_at_call 10; refine (op_w _ _ _ ?_ ?_ _ hg).mono ?_; assumption; assumption; clear hg; rintro e w' ⟨rfl, hg⟩) | (go_at_call 14; refine (kind_w _ ?_ _).mono ?_; assumption; rintro e w' ⟨rfl, rfl⟩) | (go_at_call 12; refine (order_w _ _ ?_ ?_ _).mono ?_; assumption; assumption; rintro e w' ⟨rfl, rfl⟩) | (go_at_call 16; refine (clean_any _ _).mono ?_; rintro e w' ⟨rfl, rfl⟩) | (go_at_call 11; refine (cmp_any _ _ _).mono ?_; rintro e w' ⟨rfl, rfl⟩) | (go_at_call 3; refine (runs_at _ hg).mono ?_; clear hg; rintro e w' ⟨rfl, hg⟩))
          go_ret
          exact ⟨rfl, hg⟩
      · obtain rfl := okey_eq_num ha hb na nb x3
        have m1 : opF 5 a a = a := by rw [min_num na nb, x1, if_pos (by decide)]
        have m2 : opF 6 a a = a := by rw [max_num na nb, x1, if_pos (by decide)]
        have hz := zero_or a a na nb
        rw [x1] at hz
        clear na nb x3 x1 x2
        rcases x4 with ⟨x4, x5⟩ | x4 <;> rcases hz with ⟨z1, z2, w1⟩ | ⟨z1, z2, w1⟩ | ⟨z1, w1⟩
        all_goals
          go_enter Try.func6, Try.ntmps6
          go_wp2_with (first | (go_at_call 10; refine (op_w _ _ _ ?_ ?_ _ hg).mono ?_; assumption; assumption; clear hg; rintro e w' ⟨rfl, hg⟩) | (go_at_call 14; refine (kind_w _ ?_ _).mono ?_; assumption; rintro e w' ⟨rfl, rfl⟩) | (go_at_call 12; refine (order_w _ _ ?_ ?_ _).mono ?_; assumption; assumption; rintro e w' ⟨rfl, rfl⟩) | (go_at_call 16; refine (clean_any _ _).mono ?_; rintro e w' ⟨rfl, rfl⟩) | (go_at_call 11; refine (cmp_any _ _ _).mono ?_; rintro e w' ⟨rfl, rfl⟩) | (go_at_call 3; refine (runs_at _ hg).mono ?_; clear hg; rintro e w' ⟨rfl, hg⟩))
          go_ret
          exact ⟨rfl, hg⟩
      · have e1 := clean_other ha hb (by omega)
        have m1 : opF 5 a b = a := by rw [min_num na nb, x1, if_pos (by decide)]
        have m2 : opF 6 a b = b := by rw [max_num na nb, x1, if_neg (by decide)]
        have hz := zero_or a b na nb
        rw [x1] at hz
        clear na nb x3
        rcases x4 with ⟨x4, x5⟩ | x4 <;> rcases hz with ⟨z1, z2, w1⟩ | ⟨z1, z2, w1⟩ | ⟨z1, w1⟩
        all_goals
          go_enter Try.func6, Try.ntmps6
          go_wp2_with (first | (go_at_call 10; refine (op_w _ _ _ ?_ ?_ _ hg).mono ?_; assumption; assumption; clear hg; rintro e w' ⟨rfl, hg⟩) | (go_at_call 14; refine (kind_w _ ?_ _).mono ?_; assumption; rintro e w' ⟨rfl, rfl⟩) | (go_at_call 12; refine (order_w _ _ ?_ ?_ _).mono ?_; assumption; assumption; rintro e w' ⟨rfl, rfl⟩) | (go_at_call 16; refine (clean_any _ _).mono ?_; rintro e w' ⟨rfl, rfl⟩) | (go_at_call 11; refine (cmp_any _ _ _).mono ?_; rintro e w' ⟨rfl, rfl⟩) | (go_at_call 3; refine (runs_at _ hg).mono ?_; clear hg; rintro e w' ⟨rfl, hg⟩))
          go_ret
          exact ⟨rfl, hg⟩
    · obtain ⟨C, w1, m1, m2, m3, m4⟩ := nan_facts (a := a) (Or.inr nb)
      obtain ⟨k1, k2⟩ := kind_of_nan nb
      have k3 := kind_num na
      have hx' : orderF a b = -1 ∧ orderF b a = 1 ∧ okey a < okey b ∧ (orderF b c ≤ 0 ∧ orderF a c < 0 ∨ 0 < orderF b c) := by
        have h1 := okey_nan nb
        have h2 := okey_num na
        omega
      obtain ⟨x1, x2, x3, x4⟩ := hx'
      have e1 := clean_other ha hb (by omega)
      clear na nb x3 hx
      cases k4 : (kindF a == 3) <;> rcases x4 with ⟨x4, x5⟩ | x4
      all_goals
        go_enter Try.func6, Try.ntmps6
        go_wp2_with (first | (go_at_call 10; refine (op_w _ _ _ ?_ ?_ _ hg).mono ?_; assumption; assumption; clear hg; rintro e w' ⟨rfl, hg⟩) | (go_at_call 14; refine (kind_w _ ?_ _).mono ?_; assumption; rintro e w' ⟨rfl, rfl⟩) | (go_at_call 12; refine (order_w _ _ ?_ ?_ _).mono ?_; assumption; assumption; rintro e w' ⟨rfl, rfl⟩) | (go_at_call 16; refine (clean_any _ _).mono ?_; rintro e w' ⟨rfl, rfl⟩) | (go_at_call 11; refine (cmp_any _ _ _).mono ?_; rintro e w' ⟨rfl, rfl⟩) | (go_at_call 3; refine (runs_at _ hg).mono ?_; clear hg; rintro e w' ⟨rfl, hg⟩))
        go_ret
        exact ⟨rfl, hg⟩
  · obtain ⟨C, w1, m1, m2, m3, m4⟩ := nan_facts (b := b) (Or.inl na)
    obtain ⟨k1, k2⟩ := kind_of_nan na
    have hx' : (orderF a b = 1 ∧ orderF b a = -1 ∧ okey b < okey a) ∨ (orderF a b = 0 ∧ orderF b a = 0 ∧ okey a = okey b ∧ (orderF b c ≤ 0 ∧ orderF a c ≤ 0 ∨ 0 < orderF b c)) := by
      have h1 := okey_nan na
      have h2 := @okey_le b
      omega
    clear hx
    rcases hx' with ⟨x1, x2, x3⟩ | ⟨x1, x2, x3, x4⟩
    · have e1 := clean_other ha hb (by omega)
      clear na x3
      go_enter Try.func6, Try.ntmps6
      go_wp2_with (first | (go_at_call 10; refine (op_w _ _ _ ?_ ?_ _ hg).mono ?_; assumption; assumption; clear hg; rintro e w' ⟨rfl, hg⟩) | (go_at_call 14; refine (kind_w _ ?_ _).mono ?_; assumption; rintro e w' ⟨rfl, rfl⟩) | (go_at_call 12; refine (order_w _ _ ?_ ?_ _).mono ?_; assumption; assumption; rintro e w' ⟨rfl, rfl⟩) | (go_at_call 16; refine (clean_any _ _).mono ?_; rintro e w' ⟨rfl, rfl⟩) | (go_at_call 11; refine (cmp_any _ _ _).mono ?_; rintro e w' ⟨rfl, rfl⟩) | (go_at_call 3; refine (runs_at _ hg).mono ?_; clear hg; rintro e w' ⟨rfl, hg⟩))
      go_ret
      exact ⟨rfl, hg⟩
    · have e1 := clean_same ha hb x3
      clear na x3
      rcases x4 with ⟨x4, x5⟩ | x4
      all_goals
        go_enter Try.func6, Try.ntmps6
        go_wp2_with (first | (go_at_call 10; refine (op_w _ _ _ ?_ ?_ _ hg).mono ?_; assumption; assumption; clear hg; rintro e w' ⟨rfl, hg⟩) | (go_at_call 14; refine (kind_w _ ?_ _).mono ?_; assumption; rintro e w' ⟨rfl, rfl⟩) | (go_at_call 12; refine (order_w _ _ ?_ ?_ _).mono ?_; assumption; assumption; rintro e w' ⟨rfl, rfl⟩) | (go_at_call 16; refine (clean_any _ _).mono ?_; rintro e w' ⟨rfl, rfl⟩) | (go_at_call 11; refine (cmp_any _ _ _).mono ?_; rintro e w' ⟨rfl, rfl⟩) | (go_at_call 3; refine (runs_at _ hg).mono ?_; clear hg; rintro e w' ⟨rfl, hg⟩))
        go_ret
        exact ⟨rfl, hg⟩
end Go.Proofs.Ytednckjhgijekaa
