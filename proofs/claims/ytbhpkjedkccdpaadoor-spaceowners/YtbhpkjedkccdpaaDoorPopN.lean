
/- How many bits of a word are set, as a sum of bytes' sums; no conditions. -/
import Derived.Lib.TrailingZeros
import Derived.WalkKit
namespace Go.Proofs.YtbhpkjedkccdpaaDoor
set_option maxRecDepth 100000

/-- A byte again and again. -/
def repM (b : Nat) : Nat → Nat
  | 0 => 0
  | k + 1 => b + 256 * repM b k
/-- A number of its bytes, the least first. -/
def ofBy : List Nat → Nat
  | [] => 0
  | b :: l => b + 256 * ofBy l
/-- A number's bytes. -/
def byOf : Nat → Nat → List Nat
  | 0, _ => []
  | k + 1, x => x % 256 :: byOf k (x / 256)
theorem byOf_len (k x : Nat) : (byOf k x).length = k := by
  induction k generalizing x with
  | zero => rfl
  | succ k ih => show (byOf k (x / 256)).length + 1 = _; rw [ih]
theorem byOf_lt (k x : Nat) : ∀ b ∈ byOf k x, b < 256 := by
  induction k generalizing x with
  | zero => intro b hb; simp [byOf] at hb
  | succ k ih =>
    intro b hb
    rcases List.mem_cons.1 hb with rfl | h
    · omega
    · exact ih _ b h
theorem ofBy_byOf (k x : Nat) (h : x < 256 ^ k) : ofBy (byOf k x) = x := by
  induction k generalizing x with
  | zero => simp at h; subst h; rfl
  | succ k ih =>
    show x % 256 + 256 * ofBy (byOf k (x / 256)) = x
    rw [ih (x / 256) (by rw [Nat.pow_succ] at h; omega)]
    omega

theorem and_split (a b c d : Nat) (ha : a < 256) (hc : c < 256) : (a + 256 * b) &&& (c + 256 * d) = (a &&& c) + 256 * (b &&& d) := by
  have hac : a &&& c < 2 ^ 8 := Nat.and_lt_two_pow _ hc
  apply Nat.eq_of_testBit_eq
  intro i
  rw [Nat.testBit_and, Nat.add_comm a, Nat.add_comm c, Nat.add_comm (a &&& c), show (256 : Nat) = 2 ^ 8 from rfl, Nat.testBit_two_pow_mul_add b ha, Nat.testBit_two_pow_mul_add d hc, Nat.testBit_two_pow_mul_add (b &&& d) hac]
  split <;> rw [Nat.testBit_and]

def pb1 (b : Nat) : Nat := (b / 2 &&& 85) + (b &&& 85)
def pb2 (b : Nat) : Nat := (b / 4 &&& 51) + (b &&& 51)
def pb3 (b : Nat) : Nat := b / 16 + b % 16
theorem fact1 : ∀ b : Fin 256, ∀ t : Fin 2, ((b.val / 2 + 128 * t.val) &&& 85) = (b.val / 2 &&& 85) := by decide +kernel
theorem fact2 : ∀ b : Fin 256, ∀ t : Fin 4, ((b.val / 4 + 64 * t.val) &&& 51) = (b.val / 4 &&& 51) := by decide +kernel
theorem fact3 : ∀ b : Fin 256, pb1 b.val < 256 ∧ pb2 (pb1 b.val) < 256 ∧ pb2 (pb1 b.val) / 16 ≤ 4 ∧ pb2 (pb1 b.val) % 16 ≤ 4 := by decide +kernel
theorem step1 (l : List Nat) (hl : ∀ b ∈ l, b < 256) : (ofBy l / 2 &&& repM 85 l.length) + (ofBy l &&& repM 85 l.length) = ofBy (l.map pb1) := by
  induction l with
  | nil => rfl
  | cons b l ih =>
    have hb := hl b (by simp)
    have ih := ih (fun c hc => hl c (by simp [hc]))
    show ((b + 256 * ofBy l) / 2 &&& (85 + 256 * repM 85 l.length)) + ((b + 256 * ofBy l) &&& (85 + 256 * repM 85 l.length)) = pb1 b + 256 * ofBy (l.map pb1)
    rw [← ih]
    generalize ofBy l = y
    generalize repM 85 l.length = m
    have e : (b + 256 * y) / 2 = (b / 2 + 128 * (y % 2)) + 256 * (y / 2) := by omega
    have f := fact1 ⟨b, hb⟩ ⟨y % 2, by omega⟩
    simp only at f
    rw [e, and_split _ _ _ _ (by omega) (by omega), and_split _ _ _ _ hb (by omega), f]
    unfold pb1
    omega
theorem step2 (l : List Nat) (hl : ∀ b ∈ l, b < 256) : (ofBy l / 4 &&& repM 51 l.length) + (ofBy l &&& repM 51 l.length) = ofBy (l.map pb2) := by
  induction l with
  | nil => rfl
  | cons b l ih =>
    have hb := hl b (by simp)
    have ih := ih (fun c hc => hl c (by simp [hc]))
    show ((b + 256 * ofBy l) / 4 &&& (51 + 256 * repM 51 l.length)) + ((b + 256 * ofBy l) &&& (51 + 256 * repM 51 l.length)) = pb2 b + 256 * ofBy (l.map pb2)
    rw [← ih]
    generalize ofBy l = y
    generalize repM 51 l.length = m
    have e : (b + 256 * y) / 4 = (b / 4 + 64 * (y % 4)) + 256 * (y / 4) := by omega
    have f := fact2 ⟨b, hb⟩ ⟨y % 4, by omega⟩
    simp only at f
    rw [e, and_split _ _ _ _ (by omega) (by omega), and_split _ _ _ _ hb (by omega), f]
    unfold pb2
    omega
theorem step3 (l : List Nat) (hl : ∀ b ∈ l, b < 256 ∧ b / 16 ≤ 4 ∧ b % 16 ≤ 4) : (ofBy l / 16 + ofBy l) &&& repM 15 l.length = ofBy (l.map pb3) ∧ ofBy l % 16 ≤ 4 := by
  induction l with
  | nil => exact ⟨rfl, by decide⟩
  | cons b l ih =>
    obtain ⟨hb, hb1, hb2⟩ := hl b (by simp)
    obtain ⟨ih, ih2⟩ := ih (fun c hc => hl c (by simp [hc]))
    constructor
    · show ((b + 256 * ofBy l) / 16 + (b + 256 * ofBy l)) &&& (15 + 256 * repM 15 l.length) = pb3 b + 256 * ofBy (l.map pb3)
      rw [← ih]
      generalize ofBy l = y at *
      generalize repM 15 l.length = m
      have e : (b + 256 * y) / 16 + (b + 256 * y) = (b / 16 + 16 * (y % 16) + b) + 256 * (y / 16 + y) := by omega
      have f : (b / 16 + 16 * (y % 16) + b) &&& 15 = pb3 b := by
        rw [show (15 : Nat) = 2 ^ 4 - 1 from rfl, Nat.and_two_pow_sub_one_eq_mod]
        unfold pb3
        omega
      rw [e, and_split _ _ _ _ (by omega) (by omega), f]
    · show (b + 256 * ofBy l) % 16 ≤ 4
      omega

/-- How many of the first m bits are set. -/
def popN (x : Nat) : Nat → Nat
  | 0 => 0
  | m + 1 => popN x m + (x.testBit m).toNat
theorem pop_cut (x : Nat) (m : Nat) : popN x (8 + m) = popN (x % 256) 8 + popN (x / 256) m := by
  induction m with
  | zero =>
    show popN x 8 = popN (x % 256) 8 + 0
    have h : ∀ i, i < 8 → (x % 256).testBit i = x.testBit i := fun i hi => by
      rw [show (256 : Nat) = 2 ^ 8 from rfl, Nat.testBit_mod_two_pow]; simp [hi]
    simp only [popN]
    rw [h 0 (by omega), h 1 (by omega), h 2 (by omega), h 3 (by omega), h 4 (by omega), h 5 (by omega), h 6 (by omega), h 7 (by omega)]
    omega
  | succ m ih =>
    show popN x (8 + m) + (x.testBit (8 + m)).toNat = popN (x % 256) 8 + (popN (x / 256) m + ((x / 256).testBit m).toNat)
    have h : (x / 256).testBit m = x.testBit (8 + m) := by
      rw [show (256 : Nat) = 2 ^ 8 from rfl, Nat.testBit_div_two_pow, Nat.add_comm]
    rw [ih, h]
    omega
theorem pop_by : ∀ b : Fin 256, pb3 (pb2 (pb1 b.val)) = popN b.val 8 ∧ popN b.val 8 ≤ 8 := by decide +kernel
def sumL : List Nat → Nat
  | [] => 0
  | b :: l => b + sumL l
theorem pop_bytes (k x : Nat) : popN x (8 * k) = sumL ((byOf k x).map fun b => pb3 (pb2 (pb1 b))) := by
  induction k generalizing x with
  | zero => rfl
  | succ k ih =>
    rw [show 8 * (k + 1) = 8 + 8 * k by omega, pop_cut, ih]
    show _ = pb3 (pb2 (pb1 (x % 256))) + _
    have h := (pop_by ⟨x % 256, by omega⟩).1
    simp only at h
    rw [h]

/-- The library's own way. -/
theorem pop_way (x : Nat) (hx : x < 18446744073709551616) : ∃ y1 y2 y3 : Nat,
    (x / 2 &&& 6148914691236517205) + (x &&& 6148914691236517205) = y1 ∧ (y1 / 4 &&& 3689348814741910323) + (y1 &&& 3689348814741910323) = y2 ∧ ((y2 / 16 + y2) &&& 1085102592571150095) = y3 ∧
    y1 < 18446744073709551616 ∧ y2 < 18446744073709551616 ∧ y2 / 16 + y2 < 18446744073709551616 ∧ y3 < 18446744073709551616 ∧
    (∃ y4 y5 y6, y4 = y3 + y3 / 256 ∧ y5 = y4 + y4 / 65536 ∧ y6 = y5 + y5 / 4294967296 ∧ y4 < 18446744073709551616 ∧ y5 < 18446744073709551616 ∧ y6 < 9223372036854775808 ∧ y6 % 128 = popN x 64) := by
  have hlt := byOf_lt 8 x
  have hlen := byOf_len 8 x
  have hof := ofBy_byOf 8 x hx
  have hpop := pop_bytes 8 x
  generalize byOf 8 x = l at *
  match l, hlen with
  | [b0, b1, b2, b3, b4, b5, b6, b7], _ =>
    have l0 := fact3 ⟨b0, hlt b0 (by simp)⟩
    have l1 := fact3 ⟨b1, hlt b1 (by simp)⟩
    have l2 := fact3 ⟨b2, hlt b2 (by simp)⟩
    have l3 := fact3 ⟨b3, hlt b3 (by simp)⟩
    have l4 := fact3 ⟨b4, hlt b4 (by simp)⟩
    have l5 := fact3 ⟨b5, hlt b5 (by simp)⟩
    have l6 := fact3 ⟨b6, hlt b6 (by simp)⟩
    have l7 := fact3 ⟨b7, hlt b7 (by simp)⟩
    have p0 := pop_by ⟨b0, hlt b0 (by simp)⟩
    have p1 := pop_by ⟨b1, hlt b1 (by simp)⟩
    have p2 := pop_by ⟨b2, hlt b2 (by simp)⟩
    have p3 := pop_by ⟨b3, hlt b3 (by simp)⟩
    have p4 := pop_by ⟨b4, hlt b4 (by simp)⟩
    have p5 := pop_by ⟨b5, hlt b5 (by simp)⟩
    have p6 := pop_by ⟨b6, hlt b6 (by simp)⟩
    have p7 := pop_by ⟨b7, hlt b7 (by simp)⟩
    simp only at l0 l1 l2 l3 l4 l5 l6 l7 p0 p1 p2 p3 p4 p5 p6 p7
    have h1 := step1 [b0, b1, b2, b3, b4, b5, b6, b7] hlt
    have h2 := step2 ([b0, b1, b2, b3, b4, b5, b6, b7].map pb1) (by simp; omega)
    have h3 := (step3 (([b0, b1, b2, b3, b4, b5, b6, b7].map pb1).map pb2) (by simp; omega)).1
    rw [hof] at h1
    rw [← h1] at h2
    rw [← h2] at h3
    simp only [List.length_map, List.length_cons, List.length_nil, Nat.zero_add, Nat.reduceAdd, show repM 85 8 = 6148914691236517205 from by decide, show repM 51 8 = 3689348814741910323 from by decide, show repM 15 8 = 1085102592571150095 from by decide] at h1 h2 h3
    refine ⟨_, _, _, rfl, rfl, rfl, ?_⟩
    rw [h3]
    rw [h1] at h2 ⊢
    rw [h2]
    simp only [List.map_cons, List.map_nil, ofBy, sumL] at hpop ⊢
    generalize pb3 (pb2 (pb1 b0)) = q0 at *
    generalize pb3 (pb2 (pb1 b1)) = q1 at *
    generalize pb3 (pb2 (pb1 b2)) = q2 at *
    generalize pb3 (pb2 (pb1 b3)) = q3 at *
    generalize pb3 (pb2 (pb1 b4)) = q4 at *
    generalize pb3 (pb2 (pb1 b5)) = q5 at *
    generalize pb3 (pb2 (pb1 b6)) = q6 at *
    generalize pb3 (pb2 (pb1 b7)) = q7 at *
    generalize pb2 (pb1 b0) = r0 at *
    generalize pb2 (pb1 b1) = r1 at *
    generalize pb2 (pb1 b2) = r2 at *
    generalize pb2 (pb1 b3) = r3 at *
    generalize pb2 (pb1 b4) = r4 at *
    generalize pb2 (pb1 b5) = r5 at *
    generalize pb2 (pb1 b6) = r6 at *
    generalize pb2 (pb1 b7) = r7 at *
    generalize pb1 b0 = t0 at *
    generalize pb1 b1 = t1 at *
    generalize pb1 b2 = t2 at *
    generalize pb1 b3 = t3 at *
    generalize pb1 b4 = t4 at *
    generalize pb1 b5 = t5 at *
    generalize pb1 b6 = t6 at *
    generalize pb1 b7 = t7 at *
    rw [show 8 * 8 = 64 from rfl] at hpop
    generalize popN x 64 = c at *
    clear h1 h2 h3 hlt hof hx
    refine ⟨by omega, by omega, by omega, by omega, ?_⟩
    clear l0 l1 l2 l3 l4 l5 l6 l7
    obtain ⟨y4, e4⟩ : ∃ y4, y4 = (q0 + q1) + 256 * ((q1 + q2) + 256 * ((q2 + q3) + 256 * ((q3 + q4) + 256 * ((q4 + q5) + 256 * ((q5 + q6) + 256 * ((q6 + q7) + 256 * q7)))))) := ⟨_, rfl⟩
    obtain ⟨y5, e5⟩ : ∃ y5, y5 = (q0 + q1 + q2 + q3) + 256 * ((q1 + q2 + q3 + q4) + 256 * ((q2 + q3 + q4 + q5) + 256 * ((q3 + q4 + q5 + q6) + 256 * ((q4 + q5 + q6 + q7) + 256 * ((q5 + q6 + q7) + 256 * ((q6 + q7) + 256 * q7)))))) := ⟨_, rfl⟩
    obtain ⟨z, ez⟩ : ∃ z, z = (q4 + q5 + q6 + q7) + 256 * ((q5 + q6 + q7) + 256 * ((q6 + q7) + 256 * q7)) := ⟨_, rfl⟩
    obtain ⟨y6, e6⟩ : ∃ y6, y6 = (q0 + q1 + q2 + q3 + q4 + q5 + q6 + q7) + 256 * ((q1 + q2 + q3 + q4 + q5 + q6 + q7) + 256 * ((q2 + q3 + q4 + q5 + q6 + q7) + 256 * ((q3 + q4 + q5 + q6 + q7) + 256 * ((q4 + q5 + q6 + q7) + 256 * ((q5 + q6 + q7) + 256 * ((q6 + q7) + 256 * q7)))))) := ⟨_, rfl⟩
    have d5 : y5 / 4294967296 = z := by clear e4 e6 hpop; omega
    refine ⟨y4, y5, y6, by clear e5 e6 ez hpop d5; omega, by clear e6 ez hpop d5; omega, by rw [d5]; clear e4 d5 hpop; omega, by clear e5 e6 ez hpop d5; omega, by clear e4 e6 ez hpop d5; omega, by clear e4 e5 ez hpop d5; omega, by clear e4 e5 ez d5; omega⟩
end Go.Proofs.YtbhpkjedkccdpaaDoor
