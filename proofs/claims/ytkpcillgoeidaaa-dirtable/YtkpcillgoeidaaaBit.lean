
/- What bit, table, object and the reference's key tell; bits that are set, asked, cleared; no conditions but a range. -/
import Derived.Test.YtkpcillgoeidaaaSt
import Derived.IntWalk
namespace Go.Proofs.Ytkpcillgoeidaaa
open Go.RowKit
set_option maxRecDepth 100000

def pw (i : Int) : Int := 2 ^ i.toNat
theorem below16 {i : Int} (h : 0 ≤ i) (h' : i < 16) : i = 0 ∨ i = 1 ∨ i = 2 ∨ i = 3 ∨ i = 4 ∨ i = 5 ∨ i = 6 ∨ i = 7 ∨ i = 8 ∨ i = 9 ∨ i = 10 ∨ i = 11 ∨ i = 12 ∨ i = 13 ∨ i = 14 ∨ i = 15 := by omega
theorem pw_wrap {i : Int} (h : 0 ≤ i) (h' : i < 16) : wrap64 (2 ^ i.toNat) = pw i := by
  rcases below16 h h' with rfl | rfl | rfl | rfl | rfl | rfl | rfl | rfl | rfl | rfl | rfl | rfl | rfl | rfl | rfl | rfl <;> kernel_rfl

theorem bit_w (i : Int) (w : World) (h : 0 ≤ i) (h' : i < 16) : Calls Try.prog 36 #[.int .i64 i] w fun e w' => e = .returned (.int .i64 (pw i)) ∧ w' = w := by
  have hp := pw_wrap h h'
  go_enter Try.func36, Try.ntmps36
  go_wp2
  rw [hp]
  go_ret
  exact ⟨rfl, rfl⟩

theorem wide_K : IsWide 61 2 := ⟨⟨_, Try.underlying61, rfl⟩, by kernel_rfl⟩

theorem object_w (i : Int) (w : World) : Calls Try.prog 38 #[.int .i64 i] w fun e w' => e = .returned (.agg #[.int .i64 10, .int .i64 i]) ∧ Kept (fun _ => False) w w' := by
  go_enter Try.func38, Try.ntmps38
  go_wp2
  exact bodyPost_ret (results_cell_row Try.results38 _ _ w.heap.size _ _ _ _ rfl (alloc_at _ _) Try.underlying61 rfl wide_K.size) rfl ⟨rfl, (Kept.refl _ _).alloc _⟩

theorem rkey_w (i : Int) (w : World) : Calls Try.prog 48 #[.int .i64 i] w fun e w' => e = .returned (.agg #[.int .i64 10, .int .i64 i]) ∧ Kept (fun _ => False) w w' := by
  go_enter Try.func48, Try.ntmps48
  go_wp2
  exact bodyPost_ret (results_cell_row Try.results48 _ _ w.heap.size _ _ _ _ rfl (alloc_at _ _) Try.underlying61 rfl wide_K.size) rfl ⟨rfl, (Kept.refl _ _).alloc _⟩

theorem table_w (w : World) : Calls Try.prog 35 #[] w fun e w' => e = .returned (.agg #[.int .i64 9, .int .i64 0]) ∧ Kept (fun _ => False) w w' := by
  go_enter Try.func35, Try.ntmps35
  go_wp2
  exact bodyPost_ret (results_cell_row Try.results35 _ _ w.heap.size _ _ _ _ rfl (alloc_at _ _) Try.underlying61 rfl wide_K.size) rfl ⟨rfl, (Kept.refl _ _).alloc _⟩

/-- Is the bit i of n set? -/
def hasB (n i : Int) : Bool := decide ((n / 2 ^ i.toNat) % 2 = 1)
def orN (n i : Int) : Int := bits .or .i64 n (pw i)
def clrN (n i : Int) : Int := bits .andNot .i64 n (pw i)

theorem and_raw (n : Int) (i : Nat) (hi : i < 16) : bits .and .i64 n ((2 ^ i : Nat) : Int) = if ((n % 18446744073709551616).toNat / 2 ^ i) % 2 = 1 then ((2 ^ i : Nat) : Int) else 0 := by
  have h1 : 2 ^ i < 2 ^ 16 := Nat.pow_lt_pow_right (by omega) hi
  have h2 : ((BitVec.ofInt 64 n) &&& (BitVec.ofInt 64 ((2 ^ i : Nat) : Int))).toNat = if ((n % 18446744073709551616).toNat / 2 ^ i) % 2 = 1 then 2 ^ i else 0 := by
    rw [BitVec.ofInt_natCast, BitVec.toNat_and, BitVec.toNat_ofNat, Nat.mod_eq_of_lt (by omega : 2 ^ i < 2 ^ 64), BitVec.toNat_ofInt]
    apply Nat.eq_of_testBit_eq
    intro j
    rw [Nat.testBit_and, Nat.testBit_two_pow]
    by_cases hj : i = j
    · subst hj
      rw [show (n % ((2 ^ 64 : Nat) : Int)) = n % 18446744073709551616 from rfl, Nat.testBit_eq_decide_div_mod_eq]
      by_cases hb : (n % 18446744073709551616).toNat / 2 ^ i % 2 = 1
      · simp [hb]
      · simp [hb]
    · split
      · simp [hj]
      · simp [hj]
  show IntKind.i64.wrap (((BitVec.ofInt 64 n) &&& (BitVec.ofInt 64 ((2 ^ i : Nat) : Int))).toNat : Int) = _
  rw [h2, IntKind.wrap_i64]
  by_cases hb : (n % 18446744073709551616).toNat / 2 ^ i % 2 = 1
  · rw [if_pos hb, if_pos hb]
    clear hb h2
    generalize 2 ^ i = z at *
    omega
  · rw [if_neg hb, if_neg hb]
    rfl

theorem and_b (n i : Int) (h : 0 ≤ i) (h' : i < 16) : bits .and .i64 n (pw i) = if hasB n i = true then pw i else 0 := by
  obtain ⟨k, rfl⟩ : ∃ k : Nat, i = k := ⟨i.toNat, by omega⟩
  have e : pw (k : Int) = ((2 ^ k : Nat) : Int) := by unfold pw; simp
  rw [e, and_raw n k (by omega)]
  unfold hasB
  have : ((n % 18446744073709551616).toNat / 2 ^ k) % 2 = 1 ↔ (n / 2 ^ ((k : Nat) : Int).toNat) % 2 = 1 := by
    simp only [Int.toNat_natCast]
    rcases below16 h h' with q | q | q | q | q | q | q | q | q | q | q | q | q | q | q | q <;> (obtain rfl : k = _ := by exact_mod_cast q) <;> simp only [Nat.reducePow, Int.reducePow] <;> omega
  simp only [this, decide_eq_true_eq]
theorem and_one (m : Int) : bits .and .i64 m 1 = m % 2 := by
  have := and_raw m 0 (by omega)
  simp only [Nat.pow_zero, Nat.div_one, Int.natCast_one] at this
  rw [this]
  split <;> omega
theorem pw_pos {i : Int} (h : 0 ≤ i) (h' : i < 16) : 0 < pw i := by
  rcases below16 h h' with rfl | rfl | rfl | rfl | rfl | rfl | rfl | rfl | rfl | rfl | rfl | rfl | rfl | rfl | rfl | rfl <;> decide
end Go.Proofs.Ytkpcillgoeidaaa
