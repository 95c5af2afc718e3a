/- Plain facts on IEEE doubles as words: what a word reads as, how two stand to each other, how halves, sums, products and quotients are signed and rounded. No program is named here. -/
import Ieee.Arith
namespace Go.Proofs.Ytednckjhgijekaa
open Ieee
namespace Fp

def inf : Nat := 9218868437227405312
def nanW : Nat := 9221120237041090560
def rung (x : Nat) : Nat := x % 9223372036854775808
def sgn (x : Nat) : Bool := x / 9223372036854775808 % 2 == 1
def ex (r : Nat) : Nat := r / 4503599627370496 - 1
def mant (r : Nat) : Nat := r - ex r * 4503599627370496
def isNan (x : Nat) : Bool := decide (inf < rung x)
def mk (s : Bool) (r : Nat) : Nat := if s then 9223372036854775808 + r else r

theorem signWeight : double.signWeight = 9223372036854775808 := by rfl
theorem binade : double.binade = 4503599627370496 := by rfl
theorem infRung : double.infRung = 9218868437227405312 := by rfl
theorem leastPlace : double.leastPlace = -1074 := by rfl
theorem word_eq (s : Bool) (r : Nat) : double.word s r = mk s r := by
  unfold Format.word mk; rw [signWeight]

theorem rung_lt (x : Nat) : rung x < 9223372036854775808 := Nat.mod_lt _ (by decide)

theorem mk_of (x : Nat) (h : x < 18446744073709551616) : mk (sgn x) (rung x) = x := by
  unfold mk sgn rung
  by_cases c : x / 9223372036854775808 % 2 == 1
  · rw [if_pos c]; simp only [beq_iff_eq] at c; omega
  · rw [if_neg c]; simp only [beq_iff_eq] at c; omega

theorem sgn_mk (s : Bool) (r : Nat) (h : r < 9223372036854775808) : sgn (mk s r) = s := by
  unfold sgn mk
  cases s
  · simp only [Bool.false_eq_true, if_false]
    have : r / 9223372036854775808 % 2 = 0 := by omega
    rw [this]; rfl
  · simp only [if_true]
    have : (9223372036854775808 + r) / 9223372036854775808 % 2 = 1 := by omega
    rw [this]; rfl

theorem rung_mk (s : Bool) (r : Nat) (h : r < 9223372036854775808) : rung (mk s r) = r := by
  unfold rung mk
  cases s
  · simp only [Bool.false_eq_true, if_false]; omega
  · simp only [if_true]; omega

theorem mk_lt (s : Bool) (r : Nat) (h : r < 9223372036854775808) : mk s r < 18446744073709551616 := by
  unfold mk; cases s
  · simp only [Bool.false_eq_true, if_false]; omega
  · simp only [if_true]; omega

theorem read_fin {x : Nat} (h : rung x < inf) : double.read x = .number (sgn x) (mant (rung x)) (-1074 + (ex (rung x) : Nat)) := by
  unfold Format.read
  simp only [signWeight, binade, infRung, leastPlace]
  change (if rung x < 4503599627370496 then Datum.number (sgn x) (rung x) (-1074) else _) = _
  unfold inf at h
  by_cases h1 : rung x < 4503599627370496
  · rw [if_pos h1]
    have e0 : ex (rung x) = 0 := by unfold ex; omega
    rw [mant, e0]; simp
  · rw [if_neg h1]
    change (if rung x < 9218868437227405312 then Datum.number (sgn x) (4503599627370496 + rung x % 4503599627370496) (-1074 + (rung x / 4503599627370496 - 1 : Nat)) else _) = _
    rw [if_pos h]
    have e1 : 4503599627370496 + rung x % 4503599627370496 = mant (rung x) := by unfold mant ex; omega
    rw [e1]; rfl

theorem read_inf {x : Nat} (h : rung x = inf) : double.read x = .infinity (sgn x) := by
  unfold Format.read
  simp only [signWeight, binade, infRung, leastPlace]
  change (if rung x < 4503599627370496 then _ else if rung x < 9218868437227405312 then _ else if rung x = 9218868437227405312 then Datum.infinity (sgn x) else _) = _
  unfold inf at h
  rw [if_neg (by omega), if_neg (by omega), if_pos h]

theorem read_nan {x : Nat} (h : inf < rung x) : double.read x = .nan (sgn x) (rung x - inf) := by
  unfold Format.read
  simp only [signWeight, binade, infRung, leastPlace]
  change (if rung x < 4503599627370496 then _ else if rung x < 9218868437227405312 then _ else if rung x = 9218868437227405312 then _ else Datum.nan (sgn x) (rung x - 9218868437227405312)) = _
  unfold inf at h
  rw [if_neg (by omega), if_neg (by omega), if_neg (by omega)]; rfl

theorem kinds (x : Nat) : rung x < inf ∨ rung x = inf ∨ inf < rung x := by omega

/-! the value of a rung, in units of the least place -/
def val (r : Nat) : Nat := mant r * 2 ^ ex r

theorem mant_lo {r : Nat} (h : 4503599627370496 ≤ r) : 4503599627370496 ≤ mant r ∧ mant r < 9007199254740992 := by
  unfold mant ex; omega
theorem mant_sub {r : Nat} (h : r < 9007199254740992) : mant r = r ∧ ex r = 0 := by
  unfold mant ex; omega

theorem ex_le (r : Nat) : ex r * 4503599627370496 ≤ r := by unfold ex; omega
theorem ex_mono {r s : Nat} (h : r ≤ s) : ex r ≤ ex s := by unfold ex; omega
theorem mant_hi (r : Nat) : mant r < 9007199254740992 := by unfold mant ex; omega

theorem val_lt {r s : Nat} (h : r < s) : val r < val s := by
  unfold val
  by_cases hs : s < 9007199254740992
  · have a := mant_sub hs
    have b := mant_sub (show r < 9007199254740992 by omega)
    rw [a.1, a.2, b.1, b.2]; simpa using h
  · have ms := mant_lo (show 4503599627370496 ≤ s by omega)
    by_cases he : ex r = ex s
    · rw [he]
      refine Nat.mul_lt_mul_of_pos_right ?_ (Nat.two_pow_pos _)
      unfold mant; rw [he]
      have h1 := ex_le s
      have h2 := ex_le r
      rw [he] at h2
      omega
    · have hlt : ex r < ex s := by
        have := ex_mono (Nat.le_of_lt h)
        omega
      have mr := mant_hi r
      have h2 : 2 * 2 ^ ex r ≤ 2 ^ ex s := by
        have : 2 * 2 ^ ex r = 2 ^ (ex r + 1) := by rw [Nat.pow_succ, Nat.mul_comm]
        rw [this]; exact Nat.pow_le_pow_right (by decide) hlt
      have hp : 0 < 2 ^ ex r := Nat.two_pow_pos _
      have a1 := (Nat.mul_lt_mul_right hp).2 mr
      have a3 := Nat.mul_le_mul_right (2 ^ ex s) ms.1
      generalize 2 ^ ex r = p at *
      generalize 2 ^ ex s = q at *
      generalize mant r * p = u at *
      generalize mant s * q = v at *
      omega

theorem val_zero : val 0 = 0 := by rfl

/-- how a word stands in the order of numbers -/
def key (x : Nat) : Int := if sgn x then -(rung x : Int) else rung x
def sval (x : Nat) : Int := if sgn x then -(val (rung x) : Int) else val (rung x)

theorem compare_sval (x y : Nat) : compare (sval x) (sval y) = compare (key x) (key y) := by
  have pos : ∀ r, r ≠ 0 → 0 < val r := fun r h => by have := val_lt (show 0 < r by omega); rw [val_zero] at this; exact this
  have lt : key x < key y → sval x < sval y := by
    unfold key sval
    intro h
    cases hx : sgn x <;> cases hy : sgn y <;> simp only [hx, hy, Bool.false_eq_true, if_false, if_true] at h ⊢
    · exact_mod_cast val_lt (by omega)
    · omega
    · by_cases c : rung x = 0
      · have := pos (rung y) (by omega)
        rw [c, val_zero]; omega
      · have := pos (rung x) c
        omega
    · have := val_lt (show rung y < rung x by omega)
      omega
  have gt : key y < key x → sval y < sval x := by
    unfold key sval
    intro h
    cases hx : sgn x <;> cases hy : sgn y <;> simp only [hx, hy, Bool.false_eq_true, if_false, if_true] at h ⊢
    · exact_mod_cast val_lt (by omega)
    · by_cases c : rung y = 0
      · have := pos (rung x) (by omega)
        rw [c, val_zero]; omega
      · have := pos (rung y) c
        omega
    · omega
    · have := val_lt (show rung x < rung y by omega)
      omega
  have eq : key x = key y → sval x = sval y := by
    unfold key sval
    intro h
    cases hx : sgn x <;> cases hy : sgn y <;> simp only [hx, hy, Bool.false_eq_true, if_false, if_true] at h ⊢
    · rw [show rung x = rung y by omega]
    · rw [show rung x = 0 by omega, show rung y = 0 by omega, val_zero]; rfl
    · rw [show rung x = 0 by omega, show rung y = 0 by omega, val_zero]; rfl
    · rw [show rung x = rung y by omega]
  rcases Int.lt_trichotomy (key x) (key y) with c | c | c
  · rw [Int.compare_eq_lt.2 (lt c), Int.compare_eq_lt.2 c]
  · rw [Int.compare_eq_eq.2 (eq c), Int.compare_eq_eq.2 c]
  · rw [Int.compare_eq_gt.2 (gt c), Int.compare_eq_gt.2 c]

theorem signed_eq (s : Bool) (m u : Nat) : signed s m u = if s then -((m * 2 ^ u : Nat) : Int) else (m * 2 ^ u : Nat) := by
  unfold signed; rw [Nat.shiftLeft_eq]

theorem signed_scale (s : Bool) (m u a : Nat) : signed s m u * ((2 ^ a : Nat) : Int) = signed s m (u + a) := by
  rw [signed_eq, signed_eq, Nat.pow_add, ← Nat.mul_assoc]
  cases s
  · simp
  · simp only [if_true]; rw [Int.neg_mul]; simp

theorem cmp_scale (u v : Int) (p : Nat) (hp : 0 < p) : compare (u * (p : Int)) (v * (p : Int)) = compare u v := by
  have hp' : (0 : Int) < p := by omega
  rcases Int.lt_trichotomy u v with c | c | c
  · rw [Int.compare_eq_lt.2 c, Int.compare_eq_lt.2 (Int.mul_lt_mul_of_pos_right c hp')]
  · rw [c, Int.compare_eq_eq.2 rfl, Int.compare_eq_eq.2 rfl]
  · rw [Int.compare_eq_gt.2 c, Int.compare_eq_gt.2 (Int.mul_lt_mul_of_pos_right c hp')]

theorem sval_signed (x : Nat) : sval x = signed (sgn x) (mant (rung x)) (ex (rung x)) := by
  rw [signed_eq]; rfl

theorem order_fin {x y : Nat} (hx : rung x < inf) (hy : rung y < inf) : double.order x y = some (compare (key x) (key y)) := by
  unfold Format.order
  rw [read_fin hx, read_fin hy, ← compare_sval, sval_signed, sval_signed]
  unfold Datum.order
  simp only []
  generalize ex (rung x) = a
  generalize ex (rung y) = b
  generalize mant (rung x) = m
  generalize mant (rung y) = n
  congr 1
  by_cases h : a ≤ b
  · rw [show min (-1074 + (a : Int)) (-1074 + (b : Int)) = -1074 + (a : Int) by omega]
    rw [show (-1074 + (a : Int) - (-1074 + (a : Int))).toNat = 0 by omega, show (-1074 + (b : Int) - (-1074 + (a : Int))).toNat = b - a by omega]
    rw [← cmp_scale _ _ (2 ^ a) (Nat.two_pow_pos _), signed_scale, signed_scale]
    rw [show 0 + a = a by omega, show b - a + a = b by omega]
  · rw [show min (-1074 + (a : Int)) (-1074 + (b : Int)) = -1074 + (b : Int) by omega]
    rw [show (-1074 + (a : Int) - (-1074 + (b : Int))).toNat = a - b by omega, show (-1074 + (b : Int) - (-1074 + (b : Int))).toNat = 0 by omega]
    rw [← cmp_scale _ _ (2 ^ b) (Nat.two_pow_pos _), signed_scale, signed_scale]
    rw [show 0 + b = b by omega, show a - b + b = a by omega]

theorem order_eq {x y : Nat} (hx : isNan x = false) (hy : isNan y = false) : double.order x y = some (compare (key x) (key y)) := by
  unfold isNan at hx hy
  simp only [decide_eq_false_iff_not] at hx hy
  rcases kinds x with hx1 | hx1 | hx1
  · rcases kinds y with hy1 | hy1 | hy1
    · exact order_fin hx1 hy1
    · unfold Format.order
      rw [read_fin hx1, read_inf hy1]
      unfold Datum.order key
      simp only []
      cases hs : sgn x <;> cases ht : sgn y <;> simp only [Bool.false_eq_true, if_false, if_true]
      · rw [Int.compare_eq_lt.2 (by omega)]
      · rw [Int.compare_eq_gt.2 (by omega)]
      · rw [Int.compare_eq_lt.2 (by omega)]
      · rw [Int.compare_eq_gt.2 (by omega)]
    · exact absurd hy1 hy
  · rcases kinds y with hy1 | hy1 | hy1
    · unfold Format.order
      rw [read_inf hx1, read_fin hy1]
      unfold Datum.order key
      simp only []
      cases hs : sgn x <;> cases ht : sgn y <;> simp only [Bool.false_eq_true, if_false, if_true]
      · rw [Int.compare_eq_gt.2 (by omega)]
      · rw [Int.compare_eq_gt.2 (by omega)]
      · rw [Int.compare_eq_lt.2 (by omega)]
      · rw [Int.compare_eq_lt.2 (by omega)]
    · unfold Format.order
      rw [read_inf hx1, read_inf hy1]
      unfold Datum.order key
      simp only []
      rw [hx1, hy1]
      cases hs : sgn x <;> cases ht : sgn y <;> rfl
    · exact absurd hy1 hy
  · exact absurd hx1 hx

theorem order_nan {x y : Nat} (h : isNan x = true ∨ isNan y = true) : double.order x y = none := by
  unfold Format.order
  have key : ∀ z, isNan z = true → ∃ s t, double.read z = .nan s t := fun z hz => ⟨_, _, read_nan (by unfold isNan at hz; simpa using hz)⟩
  rcases h with h | h
  · obtain ⟨s, t, e⟩ := key x h
    rw [e]; rfl
  · obtain ⟨s, t, e⟩ := key y h
    rw [e]; cases double.read x <;> rfl

/-! the six comparisons -/
def num2 (x y : Nat) : Bool := !isNan x && !isNan y
def ltB (x y : Nat) : Bool := num2 x y && decide (key x < key y)
def eqB (x y : Nat) : Bool := num2 x y && decide (key x = key y)

theorem ord_lt (x y : Nat) : (double.order x y == some .lt) = ltB x y := by
  unfold ltB num2
  cases hx : isNan x <;> cases hy : isNan y
  · rw [order_eq hx hy]
    rcases Int.lt_trichotomy (key x) (key y) with c | c | c
    · rw [Int.compare_eq_lt.2 c]; simp [c]
    · rw [Int.compare_eq_eq.2 c]; simp [c]
    · rw [Int.compare_eq_gt.2 c]; simp; omega
  all_goals rw [order_nan (by simp [hx, hy])]; rfl
theorem ord_gt (x y : Nat) : (double.order x y == some .gt) = ltB y x := by
  unfold ltB num2
  cases hx : isNan x <;> cases hy : isNan y
  · rw [order_eq hx hy]
    rcases Int.lt_trichotomy (key x) (key y) with c | c | c
    · rw [Int.compare_eq_lt.2 c]; simp; omega
    · rw [Int.compare_eq_eq.2 c]; simp [c]
    · rw [Int.compare_eq_gt.2 c]; simp [c]
  all_goals rw [order_nan (by simp [hx, hy])]; rfl
theorem ord_eq (x y : Nat) : (double.order x y == some .eq) = eqB x y := by
  unfold eqB num2
  cases hx : isNan x <;> cases hy : isNan y
  · rw [order_eq hx hy]
    rcases Int.lt_trichotomy (key x) (key y) with c | c | c
    · rw [Int.compare_eq_lt.2 c]; simp; omega
    · rw [Int.compare_eq_eq.2 c]; simp [c]
    · rw [Int.compare_eq_gt.2 c]; simp; omega
  all_goals rw [order_nan (by simp [hx, hy])]; rfl

/-! rounding -/
def near (mag : Nat) (place : Int) : Nat :=
  if mag = 0 then 0 else
  min (((max (place + mag.log2 - 52) (-1074)) - (-1074)).toNat * 4503599627370496 + Toward.even.cut false (mag <<< (place - (max (place + mag.log2 - 52) (-1074))).toNat) ((max (place + mag.log2 - 52) (-1074)) - place).toNat) inf

theorem near_le (mag : Nat) (place : Int) : near mag place ≤ inf := by
  unfold near; split
  · exact Nat.zero_le _
  · exact Nat.min_le_right _ _

theorem cut_even_neg (s : Bool) (n d : Nat) : Toward.even.cut s n d = Toward.even.cut false n d := by
  unfold Toward.cut; rfl

theorem nearest_eq (s : Bool) (mag : Nat) (place : Int) : double.nearest s mag place = mk s (near mag place) := by
  unfold Format.nearest near
  rw [word_eq, leastPlace, binade, infRung]
  by_cases h : mag = 0
  · rw [if_pos h, if_pos h]
  · rw [if_neg h, if_neg h]
    simp only []
    rw [word_eq, cut_even_neg]; rfl

theorem inf_lt : inf < 9223372036854775808 := by decide

theorem near_lt (mag : Nat) (place : Int) : near mag place < 9223372036854775808 := Nat.lt_of_le_of_lt (near_le _ _) inf_lt

theorem isNan_mk (s : Bool) {r : Nat} (h : r ≤ inf) : isNan (mk s r) = false := by
  unfold isNan
  rw [rung_mk _ _ (Nat.lt_of_le_of_lt h inf_lt)]
  simpa using h

theorem near_zero (place : Int) : near 0 place = 0 := by unfold near; rw [if_pos rfl]

theorem cut_even_zero (n : Nat) : Toward.even.cut false n 0 = n := by
  unfold Toward.cut
  simp only [Nat.zero_min, Nat.shiftLeft_zero, Nat.div_one, Nat.mod_one]
  simp

theorem near_pos {mag : Nat} {place : Int} (h : mag ≠ 0) (hp : -1074 ≤ place) : near mag place ≠ 0 := by
  unfold near
  rw [if_neg h]
  have hi : 1 ≤ inf := by decide
  suffices 1 ≤ (max (place + ↑mag.log2 - 52) (-1074) - -1074).toNat * 4503599627370496 + Toward.even.cut false (mag <<< (place - max (place + ↑mag.log2 - 52) (-1074)).toNat) (max (place + ↑mag.log2 - 52) (-1074) - place).toNat by omega
  generalize hl : max (place + (mag.log2 : Int) - 52) (-1074) = last
  by_cases c : last ≤ place
  · have e : (last - place).toNat = 0 := by omega
    rw [e, cut_even_zero]
    have : mag ≤ mag <<< (place - last).toNat := by rw [Nat.shiftLeft_eq]; exact Nat.le_mul_of_pos_right _ (Nat.two_pow_pos _)
    omega
  · have : 1 ≤ (last - -1074).toNat := by omega
    omega

/-- the sum of two finite ones, in units of the least place -/
theorem add_fin {x y : Nat} (hx : rung x < inf) (hy : rung y < inf) :
    ∃ (t : Int) (base : Int), -1074 ≤ base ∧ double.add x y = some (mk (if t = 0 then sgn x && sgn y else t < 0) (near t.natAbs base)) ∧ t * ((2 ^ (base + 1074).toNat : Nat) : Int) = sval x + sval y := by
  unfold Format.add
  rw [read_fin hx, read_fin hy, sval_signed, sval_signed]
  unfold Datum.sum
  simp only []
  generalize ex (rung x) = a
  generalize ex (rung y) = b
  generalize mant (rung x) = m
  generalize mant (rung y) = n
  refine ⟨signed (sgn x) m (-1074 + (a : Int) - min (-1074 + (a : Int)) (-1074 + (b : Int))).toNat + signed (sgn y) n (-1074 + (b : Int) - min (-1074 + (a : Int)) (-1074 + (b : Int))).toNat, min (-1074 + (a : Int)) (-1074 + (b : Int)), by omega, ?_, ?_⟩
  · simp only [Option.map_some, Format.write]
    rw [nearest_eq]
  · rw [Int.add_mul, signed_scale, signed_scale]
    congr 2 <;> omega

theorem sgn_opp (x : Nat) : double.read x = .nan (sgn x) (rung x - inf) ∨ double.read x = .infinity (sgn x) ∨ double.read x = .number (sgn x) (mant (rung x)) (-1074 + (ex (rung x) : Nat)) := by
  rcases kinds x with h | h | h
  · exact Or.inr (Or.inr (read_fin h))
  · exact Or.inr (Or.inl (read_inf h))
  · exact Or.inl (read_nan h)

theorem sub_fin {x y : Nat} (hx : rung x < inf) (hy : rung y < inf) :
    ∃ (t : Int) (base : Int), -1074 ≤ base ∧ double.sub x y = some (mk (if t = 0 then sgn x && !sgn y else t < 0) (near t.natAbs base)) ∧ t * ((2 ^ (base + 1074).toNat : Nat) : Int) = sval x - sval y := by
  unfold Format.sub
  rw [read_fin hx, read_fin hy, sval_signed, sval_signed]
  unfold Datum.sum Datum.opposite
  simp only []
  generalize ex (rung x) = a
  generalize ex (rung y) = b
  generalize mant (rung x) = m
  generalize mant (rung y) = n
  refine ⟨signed (sgn x) m (-1074 + (a : Int) - min (-1074 + (a : Int)) (-1074 + (b : Int))).toNat + signed (!sgn y) n (-1074 + (b : Int) - min (-1074 + (a : Int)) (-1074 + (b : Int))).toNat, min (-1074 + (a : Int)) (-1074 + (b : Int)), by omega, ?_, ?_⟩
  · simp only [Option.map_some, Format.write]
    rw [nearest_eq]
  · have neg : ∀ s u, signed (!s) n u = - signed s n u := fun s u => by
      rw [signed_eq, signed_eq]; cases s <;> simp
    rw [Int.add_mul, neg, Int.neg_mul, signed_scale, signed_scale, Int.sub_eq_add_neg]
    congr 3 <;> omega

theorem add_comm (x y : Nat) : double.add x y = double.add y x := by
  unfold Format.add
  congr 1
  cases double.read x <;> cases double.read y <;> simp only [Datum.sum]
  · rename_i s m i t n j
    rw [show min j i = min i j by omega, Int.add_comm (signed t n _), Bool.and_comm t s]
  · rename_i s t
    by_cases h : s = t
    · rw [if_pos h, if_pos h.symm, h]
    · rw [if_neg h, if_neg (fun e => h e.symm)]

theorem mul_comm (x y : Nat) : double.mul x y = double.mul y x := by
  unfold Format.mul
  congr 1
  cases double.read x <;> cases double.read y <;> simp only [Datum.product]
  · rename_i s m i t n j
    rw [Bool.xor_comm t s, Nat.mul_comm n m, Int.add_comm j i]
  · rename_i s t
    rw [Bool.xor_comm t s]

theorem mul_fin {x y : Nat} (hx : rung x < inf) (hy : rung y < inf) :
    double.mul x y = some (mk (sgn x ^^ sgn y) (near (mant (rung x) * mant (rung y)) (-1074 + (ex (rung x) : Nat) + (-1074 + (ex (rung y) : Nat))))) := by
  unfold Format.mul
  rw [read_fin hx, read_fin hy]
  simp only [Datum.product, Option.map_some, Format.write]
  rw [nearest_eq]

theorem mant_zero {r : Nat} : mant r = 0 ↔ r = 0 := by
  unfold mant ex; omega

/-- what makes a product a NaN, and its sign -/
theorem mul_cases (x y : Nat) :
    (double.mul x y = none ∧ (isNan x = true ∨ isNan y = true ∨ (rung x = 0 ∧ rung y = inf) ∨ (rung x = inf ∧ rung y = 0))) ∨
    (∃ r, r ≤ inf ∧ double.mul x y = some (mk (sgn x ^^ sgn y) r) ∧ isNan x = false ∧ isNan y = false ∧ ¬ (rung x = 0 ∧ rung y = inf) ∧ ¬ (rung x = inf ∧ rung y = 0)) := by
  have hi : inf ≠ 0 := by decide
  unfold isNan
  rcases kinds x with hx | hx | hx <;> rcases kinds y with hy | hy | hy
  · refine Or.inr ⟨_, near_le _ _, mul_fin hx hy, ?_, ?_, ?_, ?_⟩ <;> simp <;> omega
  · unfold Format.mul
    rw [read_fin hx, read_inf hy]
    simp only [Datum.product]
    by_cases c : mant (rung x) = 0
    · rw [if_pos c]
      exact Or.inl ⟨rfl, Or.inr (Or.inr (Or.inl ⟨mant_zero.1 c, hy⟩))⟩
    · rw [if_neg c]
      refine Or.inr ⟨inf, Nat.le_refl _, ?_, ?_, ?_, ?_, ?_⟩
      · simp only [Option.map_some, Format.write]; rw [word_eq, Bool.xor_comm]; rfl
      · simp; omega
      · simp; omega
      · intro h; exact c (mant_zero.2 h.1)
      · omega
  · unfold Format.mul
    rw [read_fin hx, read_nan hy]
    exact Or.inl ⟨rfl, by simp [hy]⟩
  · unfold Format.mul
    rw [read_inf hx, read_fin hy]
    simp only [Datum.product]
    by_cases c : mant (rung y) = 0
    · rw [if_pos c]
      exact Or.inl ⟨rfl, Or.inr (Or.inr (Or.inr ⟨hx, mant_zero.1 c⟩))⟩
    · rw [if_neg c]
      refine Or.inr ⟨inf, Nat.le_refl _, ?_, ?_, ?_, ?_, ?_⟩
      · simp only [Option.map_some, Format.write]; rw [word_eq]; rfl
      · simp; omega
      · simp; omega
      · omega
      · intro h; exact c (mant_zero.2 h.2)
  · unfold Format.mul
    rw [read_inf hx, read_inf hy]
    refine Or.inr ⟨inf, Nat.le_refl _, ?_, ?_, ?_, ?_, ?_⟩
    · simp only [Datum.product, Option.map_some, Format.write]; rw [word_eq]; rfl
    · simp; omega
    · simp; omega
    · omega
    · omega
  · unfold Format.mul
    rw [read_inf hx, read_nan hy]
    exact Or.inl ⟨rfl, by simp [hy]⟩
  all_goals
    unfold Format.mul
    rw [read_nan hx]
    exact Or.inl ⟨rfl, by simp [hx]⟩

/-- what makes a quotient a NaN, its sign, and what it is beside a zero or an infinity -/
theorem div_cases (x y : Nat) :
    (double.div x y = none ∧ (isNan x = true ∨ isNan y = true ∨ (rung x = 0 ∧ rung y = 0) ∨ (rung x = inf ∧ rung y = inf))) ∨
    (∃ r, r ≤ inf ∧ double.div x y = some (mk (sgn x ^^ sgn y) r) ∧ isNan x = false ∧ isNan y = false ∧ ¬ (rung x = 0 ∧ rung y = 0) ∧ ¬ (rung x = inf ∧ rung y = inf) ∧ (rung y = 0 → r = inf) ∧ (rung y = inf → r = 0)) := by
  have hi : inf ≠ 0 := by decide
  unfold isNan
  rcases kinds x with hx | hx | hx <;> rcases kinds y with hy | hy | hy
  · unfold Format.div
    rw [read_fin hx, read_fin hy]
    simp only [Datum.quotient]
    by_cases c : mant (rung y) = 0
    · rw [if_pos c]
      by_cases d : mant (rung x) = 0
      · rw [if_pos d]
        exact Or.inl ⟨rfl, Or.inr (Or.inr (Or.inl ⟨mant_zero.1 d, mant_zero.1 c⟩))⟩
      · rw [if_neg d]
        refine Or.inr ⟨inf, Nat.le_refl _, ?_, ?_, ?_, ?_, ?_, ?_, ?_⟩
        · simp only [Option.map_some, Format.write]; rw [word_eq]; rfl
        · simp; omega
        · simp; omega
        · intro h; exact d (mant_zero.2 h.1)
        · omega
        · exact fun _ => rfl
        · omega
    · rw [if_neg c]
      simp only [Option.map_some, Format.write]
      rw [nearest_eq]
      refine Or.inr ⟨_, near_le _ _, rfl, ?_, ?_, ?_, ?_, ?_, ?_⟩
      · simp; omega
      · simp; omega
      · intro h; exact c (mant_zero.2 h.2)
      · omega
      · intro h; exact absurd (mant_zero.2 h) c
      · omega
  · unfold Format.div
    rw [read_fin hx, read_inf hy]
    simp only [Datum.quotient, Option.map_some, Format.write]
    rw [nearest_eq, near_zero]
    refine Or.inr ⟨0, Nat.zero_le _, rfl, ?_, ?_, ?_, ?_, ?_, ?_⟩
    · simp; omega
    · simp; omega
    · omega
    · omega
    · omega
    · exact fun _ => rfl
  · unfold Format.div
    rw [read_fin hx, read_nan hy]
    exact Or.inl ⟨rfl, by simp [hy]⟩
  · unfold Format.div
    rw [read_inf hx, read_fin hy]
    refine Or.inr ⟨inf, Nat.le_refl _, ?_, ?_, ?_, ?_, ?_, ?_, ?_⟩
    · simp only [Datum.quotient, Option.map_some, Format.write]; rw [word_eq]; rfl
    · simp; omega
    · simp; omega
    · omega
    · omega
    · exact fun _ => rfl
    · omega
  · unfold Format.div
    rw [read_inf hx, read_inf hy]
    exact Or.inl ⟨rfl, Or.inr (Or.inr (Or.inr ⟨hx, hy⟩))⟩
  · unfold Format.div
    rw [read_inf hx, read_nan hy]
    exact Or.inl ⟨rfl, by simp [hy]⟩
  all_goals
    unfold Format.div
    rw [read_nan hx]
    exact Or.inl ⟨rfl, by simp [hx]⟩

/-- what makes a sum a NaN -/
theorem add_cases (x y : Nat) :
    (double.add x y = none ∧ (isNan x = true ∨ isNan y = true ∨ (rung x = inf ∧ rung y = inf ∧ sgn x ≠ sgn y))) ∨
    (∃ s r, r ≤ inf ∧ double.add x y = some (mk s r) ∧ isNan x = false ∧ isNan y = false) := by
  unfold isNan
  rcases kinds x with hx | hx | hx <;> rcases kinds y with hy | hy | hy
  · obtain ⟨t, b, _, e, _⟩ := add_fin hx hy
    refine Or.inr ⟨_, _, near_le _ _, e, ?_, ?_⟩ <;> simp <;> omega
  · unfold Format.add
    rw [read_fin hx, read_inf hy]
    refine Or.inr ⟨sgn y, inf, Nat.le_refl _, ?_, ?_, ?_⟩
    · simp only [Datum.sum, Option.map_some, Format.write]; rw [word_eq]; rfl
    · simp; omega
    · simp; omega
  · unfold Format.add
    rw [read_fin hx, read_nan hy]
    exact Or.inl ⟨rfl, by simp [hy]⟩
  · unfold Format.add
    rw [read_inf hx, read_fin hy]
    refine Or.inr ⟨sgn x, inf, Nat.le_refl _, ?_, ?_, ?_⟩
    · simp only [Datum.sum, Option.map_some, Format.write]; rw [word_eq]; rfl
    · simp; omega
    · simp; omega
  · unfold Format.add
    rw [read_inf hx, read_inf hy]
    simp only [Datum.sum]
    by_cases c : sgn x = sgn y
    · rw [if_pos c]
      refine Or.inr ⟨sgn x, inf, Nat.le_refl _, ?_, ?_, ?_⟩
      · simp only [Option.map_some, Format.write]; rw [word_eq]; rfl
      · simp; omega
      · simp; omega
    · rw [if_neg c]
      exact Or.inl ⟨rfl, Or.inr (Or.inr ⟨hx, hy, c⟩)⟩
  · unfold Format.add
    rw [read_inf hx, read_nan hy]
    exact Or.inl ⟨rfl, by simp [hy]⟩
  all_goals
    unfold Format.add
    rw [read_nan hx]
    exact Or.inl ⟨rfl, by simp [hx]⟩

theorem sub_cases (x y : Nat) :
    (double.sub x y = none ∧ (isNan x = true ∨ isNan y = true ∨ (rung x = inf ∧ rung y = inf ∧ sgn x = sgn y))) ∨
    (∃ s r, r ≤ inf ∧ double.sub x y = some (mk s r) ∧ isNan x = false ∧ isNan y = false ∧ ¬ (rung x = inf ∧ rung y = inf ∧ sgn x = sgn y)) := by
  unfold isNan
  rcases kinds x with hx | hx | hx <;> rcases kinds y with hy | hy | hy
  · obtain ⟨t, b, _, e, _⟩ := sub_fin hx hy
    refine Or.inr ⟨_, _, near_le _ _, e, ?_, ?_, ?_⟩ <;> simp <;> omega
  · unfold Format.sub
    rw [read_fin hx, read_inf hy]
    refine Or.inr ⟨!sgn y, inf, Nat.le_refl _, ?_, ?_, ?_, ?_⟩
    · simp only [Datum.sum, Datum.opposite, Option.map_some, Format.write]; rw [word_eq]; rfl
    · simp; omega
    · simp; omega
    · omega
  · unfold Format.sub
    rw [read_fin hx, read_nan hy]
    exact Or.inl ⟨rfl, by simp [hy]⟩
  · unfold Format.sub
    rw [read_inf hx, read_fin hy]
    refine Or.inr ⟨sgn x, inf, Nat.le_refl _, ?_, ?_, ?_, ?_⟩
    · simp only [Datum.sum, Datum.opposite, Option.map_some, Format.write]; rw [word_eq]; rfl
    · simp; omega
    · simp; omega
    · omega
  · unfold Format.sub
    rw [read_inf hx, read_inf hy]
    simp only [Datum.sum, Datum.opposite]
    by_cases c : sgn x = sgn y
    · rw [if_neg (by rw [c]; cases sgn y <;> simp)]
      exact Or.inl ⟨rfl, Or.inr (Or.inr ⟨hx, hy, c⟩)⟩
    · rw [if_pos (by revert c; cases sgn x <;> cases sgn y <;> simp)]
      refine Or.inr ⟨sgn x, inf, Nat.le_refl _, ?_, ?_, ?_, ?_⟩
      · simp only [Option.map_some, Format.write]; rw [word_eq]; rfl
      · simp; omega
      · simp; omega
      · intro h; exact c h.2.2
  · unfold Format.sub
    rw [read_inf hx, read_nan hy]
    exact Or.inl ⟨rfl, by simp [hy]⟩
  all_goals
    unfold Format.sub
    rw [read_nan hx]
    exact Or.inl ⟨rfl, by simp [hx]⟩

/-! exact ones -/
theorem log2_mul_pow {n : Nat} (h : n ≠ 0) (j : Nat) : (n * 2 ^ j).log2 = n.log2 + j := by
  have hn : n * 2 ^ j ≠ 0 := Nat.mul_ne_zero h (Nat.ne_of_gt (Nat.two_pow_pos j))
  have a := Nat.log2_self_le h
  have b : n < 2 ^ (n.log2 + 1) := Nat.lt_log2_self
  refine (Nat.log2_eq_iff hn).2 ⟨?_, ?_⟩
  · rw [Nat.pow_add]; exact Nat.mul_le_mul_right _ a
  · rw [show n.log2 + j + 1 = n.log2 + 1 + j by omega, Nat.pow_add]
    exact (Nat.mul_lt_mul_right (Nat.two_pow_pos j)).2 b

theorem cut_even_exact {q : Nat} (hq : q ≠ 0) (d : Nat) : Toward.even.cut false (q * 2 ^ d) d = q := by
  unfold Toward.cut
  rw [log2_mul_pow hq, Nat.min_eq_left (by omega), Nat.one_shiftLeft]
  have hp : 0 < 2 ^ d := Nat.two_pow_pos d
  simp only [Nat.mul_div_cancel _ hp, Nat.mul_mod_left]
  have : (2 ^ d == 2 * 0) = false := by simp
  rw [this]; simp

theorem near_exact {n : Nat} (hn : n ≠ 0) (hL : n.log2 ≤ 52) (j : Nat) (p : Int) (hp : -1074 ≤ p + n.log2 - 52) :
    near (n * 2 ^ j) (p - j) = min ((p + n.log2 - 52 + 1074).toNat * 4503599627370496 + n * 2 ^ (52 - n.log2)) inf := by
  have hnj : n * 2 ^ j ≠ 0 := Nat.mul_ne_zero hn (Nat.ne_of_gt (Nat.two_pow_pos j))
  unfold near
  rw [if_neg hnj, log2_mul_pow hn]
  generalize n.log2 = L at *
  have e1 : max (p - (j : Int) + ((L + j : Nat) : Int) - 52) (-1074) = p + L - 52 := by omega
  rw [e1]
  congr 2
  by_cases c : L + j ≤ 52
  · rw [show (p + (L : Int) - 52 - (p - (j : Int))).toNat = 0 by omega, cut_even_zero, show (p - (j : Int) - (p + (L : Int) - 52)).toNat = 52 - L - j by omega]
    rw [Nat.shiftLeft_eq, Nat.mul_assoc, ← Nat.pow_add, show j + (52 - L - j) = 52 - L by omega]
  · rw [show (p + (L : Int) - 52 - (p - (j : Int))).toNat = L + j - 52 by omega, show (p - (j : Int) - (p + (L : Int) - 52)).toNat = 0 by omega, Nat.shiftLeft_zero]
    have : n * 2 ^ j = (n * 2 ^ (52 - L)) * 2 ^ (L + j - 52) := by
      rw [Nat.mul_assoc, ← Nat.pow_add, show 52 - L + (L + j - 52) = j by omega]
    rw [this, cut_even_exact (Nat.mul_ne_zero hn (Nat.ne_of_gt (Nat.two_pow_pos _)))]

theorem full_mant {n : Nat} (hn : n ≠ 0) (hL : n.log2 ≤ 52) : 4503599627370496 ≤ n * 2 ^ (52 - n.log2) ∧ n * 2 ^ (52 - n.log2) < 9007199254740992 := by
  have a := Nat.log2_self_le hn
  have b : n < 2 ^ (n.log2 + 1) := Nat.lt_log2_self
  generalize n.log2 = L at *
  constructor
  · have := Nat.mul_le_mul_right (2 ^ (52 - L)) a
    rw [← Nat.pow_add, show L + (52 - L) = 52 by omega] at this
    exact this
  · have := (Nat.mul_lt_mul_right (Nat.two_pow_pos (52 - L))).2 b
    rw [← Nat.pow_add, show L + 1 + (52 - L) = 53 by omega] at this
    exact this

theorem ex_mant_of {E M : Nat} (h1 : 4503599627370496 ≤ M) (h2 : M < 9007199254740992) : ex (E * 4503599627370496 + M) = E ∧ mant (E * 4503599627370496 + M) = M := by
  unfold mant ex; omega

/-- a whole number of at most 53 digits, or half of one, is had exactly -/
theorem near_val {n : Nat} (hn : n ≠ 0) (hL : n.log2 ≤ 52) (j : Nat) (p : Int) (hp : -1 ≤ p) (hp2 : p ≤ 60) :
    near (n * 2 ^ j) (p - j) < inf ∧ val (near (n * 2 ^ j) (p - j)) = n * 2 ^ (p + 1074).toNat := by
  rw [near_exact hn hL j p (by omega)]
  have f := full_mant hn hL
  have hi : inf = 9218868437227405312 := rfl
  have hlt : (p + n.log2 - 52 + 1074).toNat * 4503599627370496 + n * 2 ^ (52 - n.log2) < inf := by
    rw [hi]
    generalize n * 2 ^ (52 - n.log2) = M at *
    omega
  rw [Nat.min_eq_left (Nat.le_of_lt hlt)]
  refine ⟨hlt, ?_⟩
  unfold val
  rw [(ex_mant_of f.1 f.2).1, (ex_mant_of f.1 f.2).2, Nat.mul_assoc, ← Nat.pow_add]
  congr 2
  omega

/-! what is left when a number is cut towards nought -/
theorem cut_zero (s : Bool) (n d : Nat) : Toward.zero.cut s n d = n / 2 ^ d := by
  unfold Toward.cut
  simp only [Bool.toNat_false, Nat.add_zero]
  rw [Nat.one_shiftLeft]
  by_cases h : d ≤ n.log2 + 2
  · rw [Nat.min_eq_left h]
  · rw [Nat.min_eq_right (by omega)]
    have b : n < 2 ^ (n.log2 + 1) := Nat.lt_log2_self
    have c1 : 2 ^ (n.log2 + 1) ≤ 2 ^ (n.log2 + 2) := Nat.pow_le_pow_right (by decide) (by omega)
    have c2 : 2 ^ (n.log2 + 1) ≤ 2 ^ d := Nat.pow_le_pow_right (by decide) (by omega)
    rw [Nat.div_eq_of_lt (by omega), Nat.div_eq_of_lt (by omega)]

/-- one, in units of the least place -/
def pl : Nat := 1074
def unit : Nat := 2 ^ pl
theorem unit_pos : 0 < unit := Nat.two_pow_pos pl
theorem unit_split {e : Nat} (h : e ≤ 1074) : unit = 2 ^ (1074 - e) * 2 ^ e := by
  have hp : pl = 1074 := rfl
  unfold unit
  rw [← Nat.pow_add, show 1074 - e + e = pl by omega]
theorem unit_over {e : Nat} (h : 1074 ≤ e) : 2 ^ e = 2 ^ (e - 1074) * unit := by
  have hp : pl = 1074 := rfl
  unfold unit
  rw [← Nat.pow_add, show e - 1074 + pl = e by omega]

def tr (r : Nat) : Nat := val r / unit

theorem toInt_fin {x : Nat} (h : rung x < inf) : (double.read x).toInt .zero = some (if sgn x then -(tr (rung x) : Int) else tr (rung x)) := by
  rw [read_fin h]
  unfold Datum.toInt Datum.integral
  simp only []
  rw [signed_eq, cut_zero, Nat.pow_zero, Nat.mul_one]
  have e : (mant (rung x) <<< (-1074 + (ex (rung x) : Int)).toNat) / 2 ^ (-(-1074 + (ex (rung x) : Int))).toNat = tr (rung x) := by
    unfold tr val
    generalize mant (rung x) = m
    generalize ex (rung x) = e
    rw [Nat.shiftLeft_eq]
    by_cases c : 1074 ≤ e
    · rw [show (-1074 + (e : Int)).toNat = e - 1074 by omega, show (-(-1074 + (e : Int))).toNat = 0 by omega, Nat.pow_zero, Nat.div_one]
      rw [unit_over c, ← Nat.mul_assoc, Nat.mul_div_cancel _ unit_pos]
    · rw [show (-1074 + (e : Int)).toNat = 0 by omega, show (-(-1074 + (e : Int))).toNat = 1074 - e by omega, Nat.pow_zero, Nat.mul_one]
      rw [unit_split (show e ≤ 1074 by omega), Nat.mul_div_mul_right _ _ (Nat.two_pow_pos _)]
  rw [e]

theorem val_top : val 4890909195324358656 = 9223372036854775808 * unit := by
  have e1 : ex 4890909195324358656 = 1085 := by decide
  have e2 : mant 4890909195324358656 = 4503599627370496 := by decide
  unfold val
  rw [e1, e2, unit_over (e := 1085) (by omega), ← Nat.mul_assoc]

theorem tr_lt {r : Nat} (h : r < 4890909195324358656) : tr r < 9223372036854775808 := by
  have := val_lt h
  rw [val_top] at this
  unfold tr
  exact Nat.div_lt_of_lt_mul (by rw [Nat.mul_comm]; exact this)

theorem tr_top : tr 4890909195324358656 = 9223372036854775808 := by
  unfold tr; rw [val_top, Nat.mul_div_cancel _ unit_pos]

theorem below_top {r n : Nat} (hv : val r = n * unit) (hn : n < 9223372036854775808) : r < 4890909195324358656 := by
  by_cases c : r < 4890909195324358656
  · exact c
  · exfalso
    have : val 4890909195324358656 ≤ val r := by
      by_cases e : r = 4890909195324358656
      · rw [e]; exact Nat.le_refl _
      · exact Nat.le_of_lt (val_lt (by omega))
    rw [hv, val_top] at this
    have h2 := Nat.le_of_mul_le_mul_right this unit_pos
    omega

end Fp
end Go.Proofs.Ytednckjhgijekaa
