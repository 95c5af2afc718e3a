
/- Pages, as plain functions: who is free, what is picked, what is given back; a page is one's; no conditions. -/
import Derived.Test.YtbhpkjedkccdpaaDoorOwT
import Derived.Test.YtbhpkjedkccdpaaDoorB64
namespace Go.Proofs.YtbhpkjedkccdpaaDoor
open Go.RowKit
set_option maxRecDepth 100000
set_option linter.unusedSimpArgs false

def hbN (n : Int) (j : Nat) : Bool := hasB n (j : Int)
/-- How many bits are set. -/
def cntB (n : Int) : Nat := cntN (hbN n) 64
/-- The first k that are set, of the first m. -/
def picks (n : Int) (m k : Nat) : List Nat := ((List.range m).filter (hbN n)).take k
def clrAll (n : Int) (l : List Nat) : Int := l.foldl (fun (n : Int) (i : Nat) => clrN n (i : Int)) n
def orAll (n : Int) (l : List Nat) : Int := l.foldl (fun (n : Int) (i : Nat) => orN n (i : Int)) n

theorem cntN_congr {f g : Nat → Bool} {n : Nat} (h : ∀ j, j < n → f j = g j) : cntN f n = cntN g n := by
  induction n with
  | zero => rfl
  | succ n ih =>
    show cntN f n + (f n).toNat = cntN g n + (g n).toNat
    rw [ih (fun j hj => h j (by omega)), h n (by omega)]
theorem filter_len (f : Nat → Bool) (n : Nat) : ((List.range n).filter f).length = cntN f n := by
  induction n with
  | zero => rfl
  | succ n ih =>
    rw [List.range_succ, List.filter_append, List.length_append, ih]
    show _ = cntN f n + (f n).toNat
    congr 1
    cases e : f n <;> simp [e]
theorem hbN_or (n : Int) (i : Nat) {j : Nat} (hj : j < 64) : hbN (orN n (i : Int)) j = (hbN n j || decide (j = i)) := hb_or n i hj
theorem hbN_clr (n : Int) (i : Nat) {j : Nat} (hj : j < 64) : hbN (clrN n (i : Int)) j = (hbN n j && !decide (j = i)) := hb_clr n i hj
theorem cntB_or {n : Int} {i : Nat} (hi : i < 64) (h : hbN n i = false) : cntB (orN n (i : Int)) = cntB n + 1 := by
  have e : cntB (orN n (i : Int)) = cntN (upn (hbN n) i true) 64 := cntN_congr fun j hj => by
    rw [hbN_or n i hj]
    unfold upn
    by_cases c : j = i <;> simp [c]
  have := cntN_put (us := hbN n) hi true
  rw [h] at this
  simp only [Bool.toNat_true, Bool.toNat_false, Nat.add_zero] at this
  rw [e, this]; rfl
theorem cntB_clr {n : Int} {i : Nat} (hi : i < 64) (h : hbN n i = true) : cntB n = cntB (clrN n (i : Int)) + 1 := by
  have e : cntB (clrN n (i : Int)) = cntN (upn (hbN n) i false) 64 := cntN_congr fun j hj => by
    rw [hbN_clr n i hj]
    unfold upn
    by_cases c : j = i <;> simp [c]
  have := cntN_put (us := hbN n) hi false
  rw [h] at this
  simp only [Bool.toNat_true, Bool.toNat_false, Nat.add_zero] at this
  rw [e, this]; rfl

theorem picks_len (n : Int) (m k : Nat) : (picks n m k).length = min k (cntN (hbN n) m) := by
  unfold picks; rw [List.length_take, filter_len]
theorem picks_mem {n : Int} {m k g : Nat} (h : g ∈ picks n m k) : g < m ∧ hbN n g = true := by
  have := List.mem_of_mem_take h
  simpa using this
theorem picks_nodup (n : Int) (m k : Nat) : (picks n m k).Nodup := List.Nodup.sublist (List.take_sublist _ _) (List.Nodup.sublist List.filter_sublist List.nodup_range)
theorem picks_zero (n : Int) (k : Nat) : picks n 0 k = [] := by unfold picks; simp
theorem picks_none (n : Int) (m : Nat) : picks n m 0 = [] := rfl
/-- One more is looked at. -/
theorem picks_no {n : Int} {m k : Nat} (h : hbN n m = false) : picks n (m + 1) k = picks n m k := by
  unfold picks
  rw [List.range_succ, List.filter_append]
  simp [h]
theorem picks_yes {n : Int} {m k : Nat} (h : hbN n m = true) (hk : cntN (hbN n) m < k) : picks n (m + 1) k = picks n m k ++ [m] := by
  unfold picks
  rw [List.range_succ, List.filter_append, List.take_of_length_le, List.take_of_length_le]
  · simp [h]
  · rw [filter_len]; omega
  · rw [List.length_append, filter_len]; simp [h]; omega
theorem picks_full {n : Int} {m k : Nat} (hk : k ≤ cntN (hbN n) m) : picks n (m + 1) k = picks n m k := by
  unfold picks
  rw [List.range_succ, List.filter_append, List.take_append_of_le_length (by rw [filter_len]; omega)]

theorem hb_clrAll {l : List Nat} (n : Int) {j : Nat} (hj : j < 64) : hbN (clrAll n l) j = (hbN n j && !decide (j ∈ l)) := by
  unfold clrAll
  induction l generalizing n with
  | nil => simp
  | cons a l ih =>
    rw [List.foldl_cons, ih, hbN_clr n a hj]
    by_cases c : j = a <;> by_cases d : j ∈ l <;> simp [c, d]
theorem hb_orAll {l : List Nat} (n : Int) {j : Nat} (hj : j < 64) : hbN (orAll n l) j = (hbN n j || decide (j ∈ l)) := by
  unfold orAll
  induction l generalizing n with
  | nil => simp
  | cons a l ih =>
    rw [List.foldl_cons, ih, hbN_or n a hj]
    by_cases c : j = a <;> by_cases d : j ∈ l <;> simp [c, d]

/-- Back, a page at a time: what is free, what is on its way. -/
def backF (y : Int × Int) (g : Int) : Int × Int := if (0 ≤ g ∧ g < 64) ∧ hasB y.2 g = true then (orN y.1 g, clrN y.2 g) else y
def backL (y : Int × Int) (l : List Nat) : Int × Int := l.foldl (fun (y : Int × Int) (g : Nat) => backF y (g : Int)) y
theorem back_all {l : List Nat} {y : Int × Int} (hl : l.Nodup) (h64 : ∀ g ∈ l, g < 64) (h1 : ∀ g ∈ l, hbN y.2 g = true) (h0 : ∀ g ∈ l, hbN y.1 g = false) :
    (∀ j, j < 64 → hbN (backL y l).1 j = (hbN y.1 j || decide (j ∈ l)) ∧ hbN (backL y l).2 j = (hbN y.2 j && !decide (j ∈ l))) ∧ cntB (backL y l).1 = cntB y.1 + l.length := by
  unfold backL
  induction l generalizing y with
  | nil => exact ⟨fun j _ => by simp, by simp⟩
  | cons a l ih =>
    have ha : a < 64 := h64 a (by simp)
    have e : backF y (a : Int) = (orN y.1 (a : Int), clrN y.2 (a : Int)) := by
      unfold backF
      rw [if_pos ⟨by omega, h1 a (by simp)⟩]
    have hn := List.nodup_cons.1 hl
    have hne : ∀ g ∈ l, g ≠ a := fun g hg e => hn.1 (e ▸ hg)
    rw [List.foldl_cons, e]
    obtain ⟨h2, h3⟩ := ih (y := (orN y.1 (a : Int), clrN y.2 (a : Int))) hn.2 (fun g hg => h64 g (by simp [hg]))
      (fun g hg => by
        show hbN (clrN y.2 (a : Int)) g = true
        rw [hbN_clr _ a (h64 g (by simp [hg])), h1 g (by simp [hg])]
        simp [hne g hg])
      (fun g hg => by
        show hbN (orN y.1 (a : Int)) g = false
        rw [hbN_or _ a (h64 g (by simp [hg])), h0 g (by simp [hg])]
        simp [hne g hg])
    refine ⟨fun j hj => ?_, ?_⟩
    · obtain ⟨i1, i2⟩ := h2 j hj
      rw [i1, i2]
      show (hbN (orN y.1 (a : Int)) j || _) = _ ∧ (hbN (clrN y.2 (a : Int)) j && _) = _
      rw [hbN_or _ a hj, hbN_clr _ a hj]
      constructor
      · by_cases c : j = a <;> by_cases d : j ∈ l <;> simp [c, d]
      · by_cases c : j = a <;> by_cases d : j ∈ l <;> simp [c, d]
    · rw [h3]
      show cntB (orN y.1 (a : Int)) + l.length = _
      rw [cntB_or ha (h0 a (by simp)), List.length_cons]
      omega

/-- A page is free, or on its way, or one process's: F free at first; P, R what the two have; W what is on its way; n0, n1 the pool's numbers. -/
structure OwnF (F : Int) (P R W : List Nat) (n0 n1 : Int) : Prop where
  cnt : ∀ g, g < 64 → (hbN n0 g).toNat + P.count g + R.count g + W.count g = (hbN F g).toNat
  way : ∀ g, g < 64 → hbN n1 g = decide (g ∈ W)
  p : ∀ g ∈ P, g < 64
  r : ∀ g ∈ R, g < 64
  w : ∀ g ∈ W, g < 64

section
variable {F : Int} {P R W : List Nat} {n0 n1 : Int}
theorem OwnF.first (F : Int) : OwnF F [] [] [] F 0 :=
  ⟨fun g hg => by simp, fun g hg => by unfold hbN hasB; simp, fun g h => by simp at h, fun g h => by simp at h, fun g h => by simp at h⟩
theorem OwnF.swap (h : OwnF F P R W n0 n1) : OwnF F R P W n0 n1 := ⟨fun g hg => by have := h.cnt g hg; omega, h.way, h.r, h.p, h.w⟩
theorem count_one {l : List Nat} (hl : l.Nodup) (g : Nat) : l.count g = (decide (g ∈ l)).toNat := by
  by_cases c : g ∈ l
  · have h1 := List.count_pos_iff.2 c
    have h2 := List.nodup_iff_count.1 hl g
    rw [decide_eq_true c]; show _ = 1; omega
  · rw [decide_eq_false c, List.count_eq_zero.2 c]; rfl
theorem OwnF.grow (h : OwnF F P R W n0 n1) (k : Nat) : OwnF F (P ++ picks n0 64 k) R W (clrAll n0 (picks n0 64 k)) n1 := by
  refine ⟨fun g hg => ?_, h.way, fun g hg => ?_, h.r, h.w⟩
  · have h1 := h.cnt g hg
    rw [List.count_append, count_one (picks_nodup n0 64 k) g, hb_clrAll n0 hg]
    by_cases c : g ∈ picks n0 64 k
    · have := (picks_mem c).2
      rw [this] at h1 ⊢
      rw [decide_eq_true c]
      simp only [Bool.not_true, Bool.and_false, Bool.toNat_false, Bool.toNat_true] at h1 ⊢
      omega
    · rw [decide_eq_false c]
      simp only [Bool.not_false, Bool.and_true, Bool.toNat_false] at h1 ⊢
      omega
  · rcases List.mem_append.1 hg with c | c
    · exact h.p g c
    · exact (picks_mem c).1
theorem OwnF.shrink {A D : List Nat} (h : OwnF F (A ++ D) R W n0 n1) : OwnF F A R (W ++ D) n0 (orAll n1 D) := by
  refine ⟨fun g hg => ?_, fun g hg => ?_, fun g hg => h.p g (List.mem_append_left _ hg), h.r, fun g hg => ?_⟩
  · have h1 := h.cnt g hg
    rw [List.count_append] at h1 ⊢
    omega
  · rw [hb_orAll n1 hg, h.way g hg]
    by_cases c : g ∈ W <;> by_cases d : g ∈ D <;> simp [c, d]
  · rcases List.mem_append.1 hg with c | c
    · exact h.w g c
    · exact h.p g (List.mem_append_right _ c)
theorem OwnF.once (h : OwnF F P R W n0 n1) : W.Nodup ∧ ∀ g ∈ W, hbN n0 g = false ∧ hbN n1 g = true := by
  have hb : ∀ g, g ∈ W → W.count g = 1 ∧ hbN n0 g = false := fun g hg => by
    have h1 := h.cnt g (h.w g hg)
    have h2 := List.count_pos_iff.2 hg
    have h3 : (hbN F g).toNat ≤ 1 := Bool.toNat_le _
    refine ⟨by omega, ?_⟩
    cases e : hbN n0 g with
    | false => rfl
    | true => rw [e] at h1; simp only [Bool.toNat_true] at h1; omega
  refine ⟨List.nodup_iff_count.2 fun g => ?_, fun g hg => ⟨(hb g hg).2, by rw [h.way g (h.w g hg), decide_eq_true hg]⟩⟩
  by_cases c : g ∈ W
  · have := (hb g c).1; omega
  · rw [List.count_eq_zero.2 c]; omega
theorem OwnF.back (h : OwnF F P R W n0 n1) : OwnF F P R [] (backL (n0, n1) W).1 (backL (n0, n1) W).2 ∧ cntB (backL (n0, n1) W).1 = cntB n0 + W.length := by
  obtain ⟨hn, hw⟩ := h.once
  obtain ⟨h1, h2⟩ := back_all (y := (n0, n1)) hn h.w (fun g hg => (hw g hg).2) (fun g hg => (hw g hg).1)
  refine ⟨⟨fun g hg => ?_, fun g hg => ?_, h.p, h.r, fun g hg => by simp at hg⟩, h2⟩
  · have h3 := h.cnt g hg
    rw [(h1 g hg).1]
    rw [count_one hn g] at h3
    by_cases c : g ∈ W
    · rw [decide_eq_true c, (hw g c).1] at h3
      rw [decide_eq_true c]
      simp only [Bool.or_true, Bool.toNat_true, Bool.toNat_false, List.count_nil] at h3 ⊢
      omega
    · rw [decide_eq_false c] at h3 ⊢
      simp only [Bool.or_false, Bool.toNat_false, List.count_nil] at h3 ⊢
      omega
  · rw [(h1 g hg).2, show hbN (n0, n1).2 g = decide (g ∈ W) from h.way g hg]
    by_cases c : g ∈ W <;> simp [c]
end
end Go.Proofs.YtbhpkjedkccdpaaDoor
