/- What FpuSigns does when it is called: it returns true on all pairs of words. -/
import Derived.Test.YtednckjhgijekaaOpWalk
import Derived.Test.YtednckjhgijekaaFacts
namespace Go.Proofs.Ytednckjhgijekaa
open Go.RowKit
open Fp

/-- the four sorts of words that the statement tells apart -/
theorem sorts (x : Nat) : (isNan x = true ∧ (kindF x == 1) = true ∧ (kindF x == 2) = false ∧ (kindF x == 3) = false) ∨ (isNan x = false ∧ rung x = inf ∧ (kindF x == 1) = false ∧ (kindF x == 2) = true ∧ (kindF x == 3) = false) ∨
    (rung x < inf ∧ (kindF x == 1) = false ∧ (kindF x == 2) = false ∧ (kindF x == 3) = true) ∨ (rung x < inf ∧ (kindF x == 1) = false ∧ (kindF x == 2) = false ∧ (kindF x == 3) = false) := by
  have hi : inf ≠ 0 := by decide
  simp only [beq_iff_eq, beq_eq_false_iff_ne, ne_eq, kind_nan, kind_is_inf, kind_is_zero, Bool.not_eq_true]
  cases h : isNan x
  · have := rung_inf h
    by_cases c : rung x = inf
    · simp [c, hi]
    · by_cases d : rung x = 0
      · simp [d]; omega
      · simp [c, d]; omega
  · have : inf < rung x := by unfold isNan at h; simpa using h
    simp; omega

def mulNan (a b : Nat) : Bool := (kindF a == 1) || (kindF b == 1) || ((kindF a == 3) && (kindF b == 2)) || ((kindF a == 2) && (kindF b == 3))
def divNan (a b : Nat) : Bool := (kindF a == 1) || (kindF b == 1) || ((kindF a == 3) && (kindF b == 3)) || ((kindF a == 2) && (kindF b == 2))

theorem and_sign (s : Bool) {r : Nat} (hr : r ≤ inf) : bits .and .u64 ((mk s r : Nat) : Int) 9223372036854775808 = ((mk s 0 : Nat) : Int) := by
  have hl := Nat.lt_of_le_of_lt hr inf_lt
  have h := u64_and_nat (mk s r) 9223372036854775808 (mk_lt s r hl) (by decide)
  rw [show ((9223372036854775808 : Nat) : Int) = 9223372036854775808 from rfl] at h
  rw [h]
  congr 1
  have hb : mk s r &&& 9223372036854775808 = mk s r / 9223372036854775808 % 2 * 9223372036854775808 := nat_bit 63 _
  rw [hb, sgn_nat _ (mk_lt s r hl), sgn_mk s r hl]
  cases s <;> rfl

theorem nan_eq {x : Nat} (h : x = nanW) : ((x : Int) == 9221120237041090560) = true ∧ ((x : Int) != 9221120237041090560) = false := by
  subst h; exact ⟨by decide, by decide⟩
theorem nan_ne {x : Nat} (h : isNan x = false) : ((x : Int) == 9221120237041090560) = false ∧ ((x : Int) != 9221120237041090560) = true := by
  have h1 := ne_nan h
  have h2 : (nanW : Nat) = 9221120237041090560 := rfl
  rw [h2] at h1
  constructor
  · rw [beq_eq_false_iff_ne]; omega
  · rw [bne_iff_ne]; omega

theorem mul_facts (a b : Nat) : (((opF 3 a b : Nat) : Int) == 9221120237041090560) = mulNan a b ∧ (((opF 3 a b : Nat) : Int) != 9221120237041090560) = !mulNan a b ∧
    (mulNan a b = false → bits .and .u64 ((opF 3 a b : Nat) : Int) 9223372036854775808 = ((mk (sgn a ^^ sgn b) 0 : Nat) : Int)) := by
  have hb : mulNan a b = true ↔ isNan a = true ∨ isNan b = true ∨ rung a = 0 ∧ rung b = inf ∨ rung a = inf ∧ rung b = 0 := by
    unfold mulNan
    simp only [Bool.or_eq_true, Bool.and_eq_true, beq_iff_eq, kind_nan, kind_is_inf, kind_is_zero, or_assoc]
  rcases mul_cases a b with ⟨e, h⟩ | ⟨r, hr, e, h1, h2, h3, h4⟩
  · have ho : opF 3 a b = nanW := by rw [op_mul, e]; rfl
    rw [hb.2 h]
    exact ⟨(nan_eq ho).1, (nan_eq ho).2, fun h => by cases h⟩
  · have ho : opF 3 a b = mk (sgn a ^^ sgn b) r := by rw [op_mul, e]; rfl
    have hf : mulNan a b = false := by
      rw [← Bool.not_eq_true, hb, h1, h2]; simp only [Bool.false_eq_true, false_or]; omega
    rw [hf]
    have hn : isNan (opF 3 a b) = false := by rw [ho]; exact isNan_mk _ hr
    refine ⟨(nan_ne hn).1, (nan_ne hn).2, fun _ => ?_⟩
    rw [ho]; exact and_sign _ hr

theorem div_facts (a b : Nat) : (((opF 4 a b : Nat) : Int) == 9221120237041090560) = divNan a b ∧ (((opF 4 a b : Nat) : Int) != 9221120237041090560) = !divNan a b ∧
    (divNan a b = false → bits .and .u64 ((opF 4 a b : Nat) : Int) 9223372036854775808 = ((mk (sgn a ^^ sgn b) 0 : Nat) : Int)) ∧
    (divNan a b = false → (kindF b == 3) = true → (((opF 4 a b : Nat) : Int) != ((mk (sgn a ^^ sgn b) inf : Nat) : Int)) = false) ∧
    (divNan a b = false → (kindF b == 2) = true → (((opF 4 a b : Nat) : Int) != ((mk (sgn a ^^ sgn b) 0 : Nat) : Int)) = false) := by
  have hb : divNan a b = true ↔ isNan a = true ∨ isNan b = true ∨ rung a = 0 ∧ rung b = 0 ∨ rung a = inf ∧ rung b = inf := by
    unfold divNan
    simp only [Bool.or_eq_true, Bool.and_eq_true, beq_iff_eq, kind_nan, kind_is_inf, kind_is_zero, or_assoc]
  rcases div_cases a b with ⟨e, h⟩ | ⟨r, hr, e, h1, h2, h3, h4, h5, h6⟩
  · have ho : opF 4 a b = nanW := by rw [op_div, e]; rfl
    rw [hb.2 h]
    exact ⟨(nan_eq ho).1, (nan_eq ho).2, fun h => (by cases h), fun h => (by cases h), fun h => (by cases h)⟩
  · have ho : opF 4 a b = mk (sgn a ^^ sgn b) r := by rw [op_div, e]; rfl
    have hf : divNan a b = false := by
      rw [← Bool.not_eq_true, hb, h1, h2]; simp only [Bool.false_eq_true, false_or]; omega
    rw [hf]
    have hn : isNan (opF 4 a b) = false := by rw [ho]; exact isNan_mk _ hr
    refine ⟨(nan_ne hn).1, (nan_ne hn).2, fun _ => ?_, fun _ hk => ?_, fun _ hk => ?_⟩
    · rw [ho]; exact and_sign _ hr
    · rw [beq_iff_eq, kind_is_zero] at hk
      rw [ho, h5 hk]; simp
    · rw [beq_iff_eq, kind_is_inf] at hk
      rw [ho, h6 hk]; simp

theorem sign_facts (a b : Nat) (ha : Wd a) (hb : Wd b) : ∃ X : Nat, bits .xor .u64 (a : Int) (b : Int) = (X : Int) ∧ bits .and .u64 (X : Int) 9223372036854775808 = ((mk (sgn a ^^ sgn b) 0 : Nat) : Int) ∧ bits .or .u64 ((mk (sgn a ^^ sgn b) 0 : Nat) : Int) 9218868437227405312 = ((mk (sgn a ^^ sgn b) inf : Nat) : Int) := by
  refine ⟨a ^^^ b, u64_xor_nat a b ha hb, ?_, ?_⟩
  · have h := u64_and_nat (a ^^^ b) 9223372036854775808 (xor_lt a b ha hb) (by decide)
    rw [show ((9223372036854775808 : Nat) : Int) = 9223372036854775808 from rfl] at h
    rw [h]
    congr 1
    have hb2 : (a ^^^ b) &&& 9223372036854775808 = (a ^^^ b) / 9223372036854775808 % 2 * 9223372036854775808 := nat_bit 63 _
    rw [hb2, xor_word a b ha hb]
    cases sgn a ^^ sgn b <;> rfl
  · cases sgn a ^^ sgn b <;> decide +kernel

theorem opp_facts (a : Nat) (ha : Wd a) : ∃ o : Nat, Wd o ∧ bits .xor .u64 (a : Int) 9223372036854775808 = (o : Int) ∧ (rung a < inf → (((opF 1 a o : Nat) : Int) == 0) = true) := by
  refine ⟨mk (!sgn a) (rung a), mk_lt _ _ (rung_lt a), ?_, ?_⟩
  · have h := u64_xor_nat a 9223372036854775808 ha (by decide)
    rw [show ((9223372036854775808 : Nat) : Int) = 9223372036854775808 from rfl] at h
    rw [h, xor_opp a ha]
  · intro h; rw [add_opp h]; rfl

set_option maxHeartbeats 1000000 in
theorem signs_any (a b : Nat) (ha : Wd a) (hb : Wd b) (w : World) :
    Calls Try.prog 5 #[.int .u64 a, .int .u64 b] w fun e w' => e = .returned (.bool true) ∧ Grown w w' := by
  obtain ⟨X, e1, e2, e3⟩ := sign_facts a b ha hb
  obtain ⟨o, ho, e4, y1⟩ := opp_facts a ha
  obtain ⟨p1, p2, p3⟩ := mul_facts a b
  obtain ⟨q1, q2, q3, q4, q5⟩ := div_facts a b
  generalize mk (sgn a ^^ sgn b) 0 = SG at *
  generalize mk (sgn a ^^ sgn b) inf = SI at *
  have hg := Grown.refl w
  rcases sorts a with ⟨c0, a1, a2, a3⟩ | ⟨c0, c1, a1, a2, a3⟩ | ⟨c0, a1, a2, a3⟩ | ⟨c0, a1, a2, a3⟩
  · have z1 := (nan_eq (op_none a a (k := 2) (by decide) (Or.inl c0))).1
    clear c0 y1 e4 ho
    rcases sorts b with ⟨d0, b1, b2, b3⟩ | ⟨d0, d1, b1, b2, b3⟩ | ⟨d0, b1, b2, b3⟩ | ⟨d0, b1, b2, b3⟩
    all_goals
      clear d0
      first | (have hm : mulNan a b = true := (by unfold mulNan; rw [a1, a2, a3, b1, b2, b3]; rfl)) | (have hm : mulNan a b = false := (by unfold mulNan; rw [a1, a2, a3, b1, b2, b3]; rfl))
      first | (have hd : divNan a b = true := (by unfold divNan; rw [a1, a2, a3, b1, b2, b3]; rfl)) | (have hd : divNan a b = false := (by unfold divNan; rw [a1, a2, a3, b1, b2, b3]; rfl))
      first | (replace p3 := p3 hm) | clear p3
      first | (replace q3 := q3 hd) | clear q3
      first | (replace q4 := q4 hd b3) | clear q4
      first | (replace q5 := q5 hd b2) | clear q5
      rw [hm] at p1 p2
      rw [hd] at q1 q2
      clear hm hd
      go_enter Try.func5, Try.ntmps5
      go_wp2_with (first | (go_at_call 10; refine (op_w _ _ _ ?_ ?_ _ hg).mono ?_; assumption; assumption; clear hg; rintro e w' ⟨rfl, hg⟩) | (go_at_call 14; refine (kind_w _ ?_ _).mono ?_; assumption; rintro e w' ⟨rfl, rfl⟩) | (go_at_call 3; refine (runs_at _ hg).mono ?_; clear hg; rintro e w' ⟨rfl, hg⟩))
      go_ret
      exact ⟨rfl, hg⟩
  · have z1 := (nan_eq (sub_self_inf c1)).1
    clear c0 c1 y1 e4 ho
    rcases sorts b with ⟨d0, b1, b2, b3⟩ | ⟨d0, d1, b1, b2, b3⟩ | ⟨d0, b1, b2, b3⟩ | ⟨d0, b1, b2, b3⟩
    all_goals
      clear d0
      first | (have hm : mulNan a b = true := (by unfold mulNan; rw [a1, a2, a3, b1, b2, b3]; rfl)) | (have hm : mulNan a b = false := (by unfold mulNan; rw [a1, a2, a3, b1, b2, b3]; rfl))
      first | (have hd : divNan a b = true := (by unfold divNan; rw [a1, a2, a3, b1, b2, b3]; rfl)) | (have hd : divNan a b = false := (by unfold divNan; rw [a1, a2, a3, b1, b2, b3]; rfl))
      first | (replace p3 := p3 hm) | clear p3
      first | (replace q3 := q3 hd) | clear q3
      first | (replace q4 := q4 hd b3) | clear q4
      first | (replace q5 := q5 hd b2) | clear q5
      rw [hm] at p1 p2
      rw [hd] at q1 q2
      clear hm hd
      go_enter Try.func5, Try.ntmps5
      go_wp2_with (first | (go_at_call 10; refine (op_w _ _ _ ?_ ?_ _ hg).mono ?_; assumption; assumption; clear hg; rintro e w' ⟨rfl, hg⟩) | (go_at_call 14; refine (kind_w _ ?_ _).mono ?_; assumption; rintro e w' ⟨rfl, rfl⟩) | (go_at_call 3; refine (runs_at _ hg).mono ?_; clear hg; rintro e w' ⟨rfl, hg⟩))
      go_ret
      exact ⟨rfl, hg⟩
  · have z1 : (((opF 2 a a : Nat) : Int) == 0) = true := by rw [sub_self c0]; rfl
    replace y1 := y1 c0
    clear c0
    rcases sorts b with ⟨d0, b1, b2, b3⟩ | ⟨d0, d1, b1, b2, b3⟩ | ⟨d0, b1, b2, b3⟩ | ⟨d0, b1, b2, b3⟩
    all_goals
      clear d0
      first | (have hm : mulNan a b = true := (by unfold mulNan; rw [a1, a2, a3, b1, b2, b3]; rfl)) | (have hm : mulNan a b = false := (by unfold mulNan; rw [a1, a2, a3, b1, b2, b3]; rfl))
      first | (have hd : divNan a b = true := (by unfold divNan; rw [a1, a2, a3, b1, b2, b3]; rfl)) | (have hd : divNan a b = false := (by unfold divNan; rw [a1, a2, a3, b1, b2, b3]; rfl))
      first | (replace p3 := p3 hm) | clear p3
      first | (replace q3 := q3 hd) | clear q3
      first | (replace q4 := q4 hd b3) | clear q4
      first | (replace q5 := q5 hd b2) | clear q5
      rw [hm] at p1 p2
      rw [hd] at q1 q2
      clear hm hd
      go_enter Try.func5, Try.ntmps5
      go_wp2_with (first | (go_at_call 10; refine (op_w _ _ _ ?_ ?_ _ hg).mono ?_; assumption; assumption; clear hg; rintro e w' ⟨rfl, hg⟩) | (go_at_call 14; refine (kind_w _ ?_ _).mono ?_; assumption; rintro e w' ⟨rfl, rfl⟩) | (go_at_call 3; refine (runs_at _ hg).mono ?_; clear hg; rintro e w' ⟨rfl, hg⟩))
      go_ret
      exact ⟨rfl, hg⟩
  · have z1 : (((opF 2 a a : Nat) : Int) == 0) = true := by rw [sub_self c0]; rfl
    replace y1 := y1 c0
    clear c0
    rcases sorts b with ⟨d0, b1, b2, b3⟩ | ⟨d0, d1, b1, b2, b3⟩ | ⟨d0, b1, b2, b3⟩ | ⟨d0, b1, b2, b3⟩
    all_goals
      clear d0
      first | (have hm : mulNan a b = true := (by unfold mulNan; rw [a1, a2, a3, b1, b2, b3]; rfl)) | (have hm : mulNan a b = false := (by unfold mulNan; rw [a1, a2, a3, b1, b2, b3]; rfl))
      first | (have hd : divNan a b = true := (by unfold divNan; rw [a1, a2, a3, b1, b2, b3]; rfl)) | (have hd : divNan a b = false := (by unfold divNan; rw [a1, a2, a3, b1, b2, b3]; rfl))
      first | (replace p3 := p3 hm) | clear p3
      first | (replace q3 := q3 hd) | clear q3
      first | (replace q4 := q4 hd b3) | clear q4
      first | (replace q5 := q5 hd b2) | clear q5
      rw [hm] at p1 p2
      rw [hd] at q1 q2
      clear hm hd
      go_enter Try.func5, Try.ntmps5
      go_wp2_with (first | (go_at_call 10; refine (op_w _ _ _ ?_ ?_ _ hg).mono ?_; assumption; assumption; clear hg; rintro e w' ⟨rfl, hg⟩) | (go_at_call 14; refine (kind_w _ ?_ _).mono ?_; assumption; rintro e w' ⟨rfl, rfl⟩) | (go_at_call 3; refine (runs_at _ hg).mono ?_; clear hg; rintro e w' ⟨rfl, hg⟩))
      go_ret
      exact ⟨rfl, hg⟩
end Go.Proofs.Ytednckjhgijekaa
