
/- Lists of keys, marked and sorted: plain facts; no conditions. -/
import Derived.Test.YtkpcillgoeidaaaFun
namespace Go.Proofs.Ytkpcillgoeidaaa

/-- Is the place p one of l's? -/
def mk (l : List (Int × Int)) (p : Nat) : Bool := l.any fun k => plc k == (p : Int)

def upto (f : Nat → Bool) (n : Nat) : List (Int × Int) := ((List.range n).filter f).map fun p : Nat => keyAt (p : Int)
def sortOf (l : List (Int × Int)) : List (Int × Int) := upto (mk l) 55
def withinOf (a b : List (Int × Int)) : Bool := (List.range 55).all fun p => !mk a p || mk b p

theorem upto_zero (f : Nat → Bool) : upto f 0 = [] := rfl
theorem upto_succ (f : Nat → Bool) (n : Nat) : upto f (n + 1) = upto f n ++ if f n then [keyAt n] else [] := by
  unfold upto
  rw [List.range_succ, List.filter_append, List.map_append]
  congr 1
  by_cases h : f n = true
  · simp [h]
  · simp only [Bool.not_eq_true] at h; simp [h]
theorem upto_yes {f : Nat → Bool} {n : Nat} (h : f n = true) : upto f (n + 1) = upto f n ++ [keyAt n] := by rw [upto_succ, if_pos h]
theorem upto_no {f : Nat → Bool} {n : Nat} (h : f n = false) : upto f (n + 1) = upto f n := by rw [upto_succ, if_neg (by simp [h])]; simp
theorem upto_len (f : Nat → Bool) (n : Nat) : (upto f n).length ≤ n := by
  unfold upto
  rw [List.length_map]
  exact Nat.le_trans (List.length_filter_le _ _) (by simp)

theorem mk_nil (p : Nat) : mk [] p = false := rfl
theorem mk_app (a b : List (Int × Int)) (p : Nat) : mk (a ++ b) p = (mk a p || mk b p) := by unfold mk; rw [List.any_append]
theorem mk_one (k : Int × Int) (p : Nat) : mk [k] p = (plc k == (p : Int)) := by simp [mk]
theorem mk_mem {l : List (Int × Int)} {p : Nat} : mk l p = true ↔ ∃ k, k ∈ l ∧ plc k = p := by simp [mk]
theorem mk_reverse (l : List (Int × Int)) (p : Nat) : mk l.reverse p = mk l p := by unfold mk; rw [List.any_reverse]

theorem upto_mem {f : Nat → Bool} {n : Nat} {k : Int × Int} : k ∈ upto f n ↔ ∃ p, p < n ∧ f p = true ∧ keyAt p = k := by
  simp [upto]
  constructor
  · rintro ⟨p, ⟨h1, h2⟩, h3⟩; exact ⟨p, h1, h2, h3⟩
  · rintro ⟨p, h1, h2, h3⟩; exact ⟨p, ⟨h1, h2⟩, h3⟩

theorem mk_sort {l : List (Int × Int)} {p : Nat} (h : p < 55) : mk (sortOf l) p = mk l p := by
  rw [Bool.eq_iff_iff, mk_mem]
  constructor
  · rintro ⟨k, hk, e⟩
    obtain ⟨q, hq, hm, rfl⟩ := upto_mem.1 hk
    rw [plc_keyAt (by omega) (by omega)] at e
    obtain rfl : q = p := by omega
    exact hm
  · intro hm
    exact ⟨keyAt p, upto_mem.2 ⟨p, h, hm, rfl⟩, plc_keyAt (by omega) (by omega)⟩

theorem upto_congr {f g : Nat → Bool} {n : Nat} (h : ∀ p, p < n → f p = g p) : upto f n = upto g n := by
  unfold upto
  congr 1
  exact List.filter_congr (fun p hp => h p (by simpa using hp))

theorem sort_sort (l : List (Int × Int)) : sortOf (sortOf l) = sortOf l := upto_congr fun _ hp => mk_sort hp
theorem sort_reverse (l : List (Int × Int)) : sortOf l.reverse = sortOf l := upto_congr fun p _ => mk_reverse l p

theorem within_iff {a b : List (Int × Int)} : withinOf a b = true ↔ ∀ k, k ∈ a → 0 ≤ plc k → ∃ x, x ∈ b ∧ plc x = plc k := by
  unfold withinOf
  rw [List.all_eq_true]
  constructor
  · intro h k hk h0
    have hb := plc_bounds k
    have := h (plc k).toNat (by simp; omega)
    have hm : mk a (plc k).toNat = true := mk_mem.2 ⟨k, hk, by omega⟩
    rw [hm] at this
    obtain ⟨x, hx, e⟩ := mk_mem.1 (by simpa using this)
    exact ⟨x, hx, by omega⟩
  · intro h p hp
    cases hm : mk a p with
    | false => rfl
    | true =>
      obtain ⟨k, hk, e⟩ := mk_mem.1 hm
      obtain ⟨x, hx, e'⟩ := h k hk (by omega)
      have : mk b p = true := mk_mem.2 ⟨x, hx, by omega⟩
      simp [this]

theorem sort_mem {l : List (Int × Int)} {k : Int × Int} : k ∈ sortOf l ↔ k ∈ l ∧ 0 ≤ plc k := by
  unfold sortOf
  rw [upto_mem]
  constructor
  · rintro ⟨p, hp, hm, rfl⟩
    obtain ⟨k, hk, e⟩ := mk_mem.1 hm
    have := keyAt_plc (k := k) (by omega)
    rw [← e, this]
    exact ⟨hk, by omega⟩
  · rintro ⟨hk, h0⟩
    have hb := plc_bounds k
    refine ⟨(plc k).toNat, by omega, mk_mem.2 ⟨k, hk, by omega⟩, ?_⟩
    rw [show (((plc k).toNat : Nat) : Int) = plc k by omega]
    exact keyAt_plc h0

theorem within_self_sort (l : List (Int × Int)) : withinOf l (sortOf l) = true := within_iff.2 fun k hk h0 => ⟨k, sort_mem.2 ⟨hk, h0⟩, rfl⟩
theorem within_sort_self (l : List (Int × Int)) : withinOf (sortOf l) l = true := within_iff.2 fun k hk _ => ⟨k, (sort_mem.1 hk).1, rfl⟩
theorem within_sub {a b : List (Int × Int)} (h : ∀ k, k ∈ a → k ∈ b) : withinOf a b = true := within_iff.2 fun k hk _ => ⟨k, h k hk, rfl⟩
theorem within_nil (b : List (Int × Int)) : withinOf [] b = true := within_sub (fun k h => by simp at h)

/-- Places rise along what is sorted. -/
theorem upto_rises (f : Nat → Bool) (n : Nat) (hn : n ≤ 55) : (upto f n).Pairwise fun a b => plc a < plc b := by
  unfold upto
  rw [List.pairwise_map]
  have h1 : (List.range n).Pairwise (· < ·) := List.pairwise_lt_range
  have h2 := (h1.filter f)
  refine List.Pairwise.imp_of_mem ?_ h2
  intro a b ha hb hab
  have ha' : a < n := by simpa using (List.mem_filter.1 ha).1
  have hb' : b < n := by simpa using (List.mem_filter.1 hb).1
  rw [plc_keyAt (by omega) (by omega), plc_keyAt (by omega) (by omega)]
  omega

theorem sort_rises (l : List (Int × Int)) : (sortOf l).Pairwise fun a b => plc a < plc b := upto_rises _ _ (Nat.le_refl _)

theorem sort_step {l : List (Int × Int)} {i j : Nat} (hij : i < j) (hj : j < (sortOf l).length) : plc ((sortOf l).getD i (0, 0)) < plc ((sortOf l).getD j (0, 0)) := by
  have := List.pairwise_iff_getElem.1 (sort_rises l) i j (by omega) hj hij
  have e1 : (sortOf l).getD i (0, 0) = (sortOf l)[i] := by simp [List.getD, show i < (sortOf l).length by omega]
  have e2 : (sortOf l).getD j (0, 0) = (sortOf l)[j] := by simp [List.getD, hj]
  rw [e1, e2]
  exact this

theorem sort_at {l : List (Int × Int)} {i : Nat} (hi : i < (sortOf l).length) : (sortOf l).getD i (0, 0) ∈ l ∧ 0 ≤ plc ((sortOf l).getD i (0, 0)) := by
  have e1 : (sortOf l).getD i (0, 0) = (sortOf l)[i] := by simp [List.getD, hi]
  rw [e1]
  exact sort_mem.1 (List.getElem_mem hi)

/-- One left out, it is missed. -/
theorem within_less {l : List (Int × Int)} {i : Nat} (hi : i < (sortOf l).length) : withinOf (sortOf l) ((sortOf l).take i ++ (sortOf l).drop (i + 1)) = false := by
  rw [← Bool.not_eq_true]
  intro h
  have hm := within_iff.1 h
  have e1 : (sortOf l).getD i (0, 0) = (sortOf l)[i] := by simp [List.getD, hi]
  obtain ⟨x, hx, e⟩ := hm ((sortOf l)[i]) (List.getElem_mem hi) (by rw [← e1]; exact (sort_at hi).2)
  have hp := List.pairwise_iff_getElem.1 (sort_rises l)
  rcases List.mem_append.1 hx with hx | hx
  · obtain ⟨j, hj, rfl⟩ := List.mem_iff_getElem.1 hx
    simp at hj
    have := hp j i (by omega) hi (by omega)
    rw [List.getElem_take] at e
    omega
  · obtain ⟨j, hj, rfl⟩ := List.mem_iff_getElem.1 hx
    simp at hj
    have := hp i (i + 1 + j) hi (by omega) (by omega)
    rw [List.getElem_drop] at e
    omega

theorem less_within (l : List (Int × Int)) (i : Nat) : withinOf ((sortOf l).take i ++ (sortOf l).drop (i + 1)) (sortOf l) = true :=
  within_sub fun k hk => by
    rcases List.mem_append.1 hk with h | h
    · exact List.mem_of_mem_take h
    · exact List.mem_of_mem_drop h

end Go.Proofs.Ytkpcillgoeidaaa
