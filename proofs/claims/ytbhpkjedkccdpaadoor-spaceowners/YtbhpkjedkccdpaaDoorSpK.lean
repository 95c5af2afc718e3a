
/- The least bit of a word, the pages that are taken one by one; how many bits are set, as the library tells; no conditions. -/
import Derived.Test.YtbhpkjedkccdpaaDoorSpT
import Derived.Test.YtbhpkjedkccdpaaDoorPopN
import Derived.Lib.TrailingZeros
namespace Go.Proofs.YtbhpkjedkccdpaaDoor
open Go.RowKit
set_option maxRecDepth 100000
set_option linter.unusedSimpArgs false

/-- A word as a number of 64 bits. -/
def wordN (n : Int) : Nat := (n % 18446744073709551616).toNat
theorem wordN_lt (n : Int) : wordN n < 18446744073709551616 := by unfold wordN; omega
theorem wordN_int (n : Int) : (wordN n : Int) = n % 18446744073709551616 := by unfold wordN; omega
theorem hb_test (n : Int) {i : Nat} (hi : i < 64) : hbN n i = (wordN n).testBit i := by
  rw [Nat.testBit_eq_decide_div_mod_eq]
  unfold hbN hasB wordN
  rw [Int.toNat_natCast, decide_eq_decide]
  exact (div_mod_two n i hi).symm
theorem pop_cnt (n : Int) {m : Nat} (hm : m ≤ 64) : popN (wordN n) m = cntN (hbN n) m := by
  induction m with
  | zero => rfl
  | succ m ih =>
    show popN (wordN n) m + ((wordN n).testBit m).toNat = cntN (hbN n) m + (hbN n m).toNat
    rw [ih (by omega), hb_test n (by omega)]
theorem test_pow (c m j : Nat) : (2 ^ c * (2 * m + 1)).testBit j = (decide (c ≤ j) && (2 * m + 1).testBit (j - c)) := by
  rw [Nat.mul_comm, Nat.testBit_mul_two_pow]
theorem ctz_least {n : Int} {k : Nat} (hk : k < 64) (h1 : hbN n k = true) (h0 : ∀ j, j < k → hbN n j = false) : Lib.ctz 64 (wordN n) = k ∧ wordN n ≠ 0 := by
  have hx : wordN n ≠ 0 := fun e => by
    rw [hb_test n hk, e, Nat.zero_testBit] at h1
    cases h1
  refine ⟨?_, hx⟩
  obtain ⟨m, e, hc⟩ := Lib.ctzFrom_spec 64 (wordN n) (by omega) (wordN_lt n)
  have hz : Lib.ctz 64 (wordN n) = Lib.ctzFrom 64 (wordN n) := by unfold Lib.ctz; rw [if_neg hx]
  rw [hz]
  generalize Lib.ctzFrom 64 (wordN n) = c at *
  have t : ∀ j, j < 64 → hbN n j = (decide (c ≤ j) && (2 * m + 1).testBit (j - c)) := fun j hj => by rw [hb_test n hj, e, test_pow]
  have hcc : hbN n c = true := by
    rw [t c hc, Nat.sub_self, Nat.testBit_zero]
    simp
  have hge : ¬ k < c := fun h => by
    rw [t k hk] at h1
    simp only [Bool.and_eq_true, decide_eq_true_eq] at h1
    omega
  have hle : ¬ c < k := fun h => by rw [h0 c h] at hcc; cases hcc
  omega

/-- One more is taken: the least that is set. -/
theorem picks_next {n : Int} {r : Nat} (hr : r < cntB n) : ∃ g, g < 64 ∧ picks n 64 (r + 1) = picks n 64 r ++ [g] ∧ hbN (clrAll n (picks n 64 r)) g = true ∧ ∀ j, j < g → hbN (clrAll n (picks n 64 r)) j = false := by
  have hlen : ((List.range 64).filter (hbN n)).length = cntB n := filter_len _ _
  have hp : ((List.range 64).filter (hbN n)).Pairwise (fun a b => a < b) := List.Pairwise.filter _ List.pairwise_lt_range
  have hmem : ∀ j, j ∈ (List.range 64).filter (hbN n) ↔ j < 64 ∧ hbN n j = true := fun j => by simp
  unfold picks
  generalize (List.range 64).filter (hbN n) = l at *
  have hrl : r < l.length := by omega
  have hlt := List.pairwise_iff_getElem.1 hp
  have hg := (hmem l[r]).1 (List.getElem_mem hrl)
  have hin : ∀ j, j ∈ l.take r ↔ ∃ s, ∃ hs : s < l.length, s < r ∧ l[s] = j := fun j => by
    rw [List.mem_take_iff_getElem]
    constructor
    · rintro ⟨s, hs, e⟩
      exact ⟨s, by omega, by omega, e⟩
    · rintro ⟨s, hs, h, e⟩
      exact ⟨s, by omega, e⟩
  refine ⟨l[r], hg.1, by rw [List.take_succ_eq_append_getElem hrl], ?_, fun j hj => ?_⟩
  · rw [hb_clrAll n hg.1, hg.2]
    have : ¬ l[r] ∈ l.take r := fun e => by
      obtain ⟨s, hs, h, e⟩ := (hin _).1 e
      have := hlt s r hs hrl h
      omega
    simp [this]
  · have hj64 : j < 64 := by omega
    rw [hb_clrAll n hj64]
    cases hb : hbN n j with
    | false => rfl
    | true =>
      obtain ⟨s, hs, e⟩ := List.getElem_of_mem ((hmem j).2 ⟨hj64, hb⟩)
      have hsr : s < r := by
        rcases Nat.lt_trichotomy s r with h | h | h
        · exact h
        · subst h; omega
        · have := hlt r s hrl hs h; omega
      have : j ∈ l.take r := (hin j).2 ⟨s, hs, hsr, e⟩
      simp [this]
theorem clr_next (n : Int) (l : List Nat) (g : Nat) : clrAll n (l ++ [g]) = clrN (clrAll n l) (g : Int) := by unfold clrAll; rw [List.foldl_append]; rfl
end Go.Proofs.YtbhpkjedkccdpaaDoor
