
/- A table of processes: what each call leaves, as plain functions; no conditions. -/
import Derived.Test.YtiklclmpealllaaPrK
namespace Go.Proofs.Ytiklclmpealllaa
open Go.RowKit
set_option maxRecDepth 100000
set_option linter.unusedSimpArgs false

theorem wrap_little {x : Int} (h : -1000 ≤ x) (h' : x ≤ 1000) : wrap64 x = x := by unfold wrap64; omega
/-- A function that says another thing at one place. -/
def upn {α : Type} (f : Nat → α) (k : Nat) (x : α) : Nat → α := fun j => if j = k then x else f j

/-- us: which are used; pa: whose children; pi: their pids; L: the last pid. -/
structure ProcF (us : Nat → Bool) (pa pi : Nat → Int) (L : Int) (g : VwF) : Prop where
  tab : ∃ m : Nat, m < 65536 ∧ (vgetF f0 g (3, 0)).n0 = (m : Int) ∧ ∀ j, j < 8 → m.testBit j = us j
  last : (vgetF f0 g (3, 0)).n1 = L
  pro : ∀ i : Nat, i < 8 → us i = true → (vgetF f0 g (4, (i : Int))).n0 = 1 ∧ (vgetF f0 g (4, (i : Int))).n1 = pa i + 1 ∧ (vgetF f0 g (4, (i : Int))).n2 = pi i
  low : ∀ i : Nat, i < 8 → us i = true → pi i ≤ L
  inj : ∀ i j : Nat, i < 8 → j < 8 → us i = true → us j = true → pi i = pi j → i = j

section
variable {us : Nat → Bool} {pa pi : Nat → Int} {L : Int} {g g' : VwF}
theorem ProcF.same (h : ProcF us pa pi L g) (hg : ∀ j, vgetF f0 g' j = vgetF f0 g j) : ProcF us pa pi L g' := by
  refine ⟨?_, ?_, fun i h1 h2 => ?_, h.low, h.inj⟩
  · rw [hg]; exact h.tab
  · rw [hg]; exact h.last
  · rw [hg]; exact h.pro i h1 h2
theorem ProcF.u (h : ProcF us pa pi L g) {i : Nat} (hi : i < 8) : isU f0 g (i : Int) = us i := by
  obtain ⟨m, h1, h2, h3⟩ := h.tab
  rw [(isU_in (by omega)).1, ← h3 i hi]
  show hasB (vgetF f0 g (3, 0)).n0 _ = _
  rw [h2, hasB_nat]
theorem ProcF.st (h : ProcF us pa pi L g) {i : Nat} (hi : i < 8) : stA f0 g (i : Int) = if us i = true then 1 else 0 := by
  unfold stA
  rw [h.u hi]
  split
  · rename_i e; exact (h.pro i hi e).1
  · rfl
theorem ProcF.r (h : ProcF us pa pi L g) {i : Nat} (hi : i < 8) : isR f0 g (i : Int) = us i := by
  unfold isR
  rw [h.st hi]
  cases us i <;> rfl
theorem ProcF.par (h : ProcF us pa pi L g) {i : Nat} (hi : i < 8) (m : Int) : parB f0 g (i : Int) (m + 1) = (us i && (pa i == m)) := by
  unfold parB
  rw [h.r hi]
  cases hu : us i with
  | false => rfl
  | true =>
    rw [show (prV f0 g (i : Int)).n1 = pa i + 1 from (h.pro i hi hu).2.1]
    simp only [Bool.true_and]
    by_cases e : pa i = m
    · subst e; simp
    · rw [beq_eq_false_iff_ne.2 e, beq_eq_false_iff_ne.2 (by omega)]
theorem ProcF.pid (h : ProcF us pa pi L g) {i : Nat} (hi : i < 8) (m : Int) : pidB f0 g (i : Int) m = (us i && (pi i == m)) := by
  unfold pidB
  rw [h.r hi]
  cases hu : us i with
  | false => rfl
  | true => rw [show (prV f0 g (i : Int)).n2 = pi i from (h.pro i hi hu).2.2]
/-- The children of k among the first n. -/
def kidL (us : Nat → Bool) (pa : Nat → Int) (k : Int) (n : Nat) : List Int := ((List.range n).filter (fun j : Nat => us j && (pa j == k))).map (fun j : Nat => (j : Int))
theorem kidL_succ (us : Nat → Bool) (pa : Nat → Int) (k : Int) (n : Nat) : kidL us pa k (n + 1) = kidL us pa k n ++ if (us n && (pa n == k)) = true then [(n : Int)] else [] := by
  unfold kidL
  rw [List.range_succ, List.filter_append, List.map_append]
  congr 1
  by_cases e : (us n && (pa n == k)) = true <;> simp [e]
theorem kidL_len (us : Nat → Bool) (pa : Nat → Int) (k : Int) (n : Nat) : (kidL us pa k n).length ≤ n := by
  unfold kidL
  rw [List.length_map]
  exact Nat.le_trans (List.length_filter_le _ _) (by simp)
theorem ProcF.kids (h : ProcF us pa pi L g) (m : Int) : kidsN f0 g (m + 1) 8 = kidL us pa m 8 := by
  unfold kidsN kidL
  congr 1
  exact List.filter_congr (fun j hj => h.par (by simpa using hj) m)
theorem ProcF.bypid (h : ProcF us pa pi L g) {k : Nat} (hk : k < 8) (hu : us k = true) : pidA f0 g (pi k) = (k : Int) := by
  refine pidA_at hk (fun j hj => ?_) ?_
  · rw [h.pid (by omega)]
    cases e : us j with
    | false => rfl
    | true =>
      by_cases c : pi j = pi k
      · have := h.inj j k (by omega) hk e hu c; omega
      · simp [c]
  · rw [h.pid hk, hu]; simp
theorem ProcF.at_ (h : ProcF us pa pi L g) {k : Nat} (hk : k < 8) (h1 : us k = false) (h2 : ∀ j, j < k → us j = true) : nwA f0 g = (k : Int) := by
  refine free8_at (by omega) (by omega) (fun j j1 j2 => ?_) ?_
  · have := h.u (i := j.toNat) (by omega)
    rw [show ((j.toNat : Nat) : Int) = j by omega, (isU_in (by omega)).1, h2 _ (by omega)] at this
    exact this
  · have := h.u (i := k) hk
    rw [(isU_in (by omega)).1, h1] at this
    exact this
theorem ProcF.new (h : ProcF us pa pi L g) {k : Nat} (hk : k < 8) (h1 : us k = false) (h2 : ∀ j, j < k → us j = true) {p : Int} (p1 : 0 ≤ p) (p2 : p < 8) (l1 : 0 ≤ L) (l2 : L ≤ 100) :
    nwA f0 g = (k : Int) ∧ ProcF (upn us k true) (upn pa k p) (upn pi k (L + 1)) (L + 1) (nwT f0 g p) := by
  have ha := h.at_ hk h1 h2
  have hget := nw_get (f := f0) (g := g) p (by rw [ha]; omega)
  rw [ha] at hget
  have hn1 : (nwV (ptV f0 g) (k : Int)).n1 = L + 1 := by
    show wrap64 ((vgetF f0 g (3, 0)).n1 + 1) = _
    rw [h.last]; exact wrap_little (by omega) (by omega)
  have ho : ∀ j : Nat, j < 8 → upn us k true j = true → j ≠ k → us j = true := fun j _ hj hne => by unfold upn at hj; rw [if_neg hne] at hj; exact hj
  obtain ⟨m, m1, m2, m3⟩ := h.tab
  refine ⟨ha, ?_, ?_, fun i i1 i2 => ?_, fun i i1 i2 => ?_, fun i j i1 j1 i2 j2 e => ?_⟩
  · obtain ⟨o1, o2⟩ := or_nat m1 (show k < 16 by omega)
    refine ⟨m ||| 2 ^ k, o2, ?_, fun j hj => ?_⟩
    · rw [hget, if_neg (key_ne (by decide) _ _), if_pos rfl]
      show orN (vgetF f0 g (3, 0)).n0 k = _
      rw [m2, o1]
    · rw [Nat.testBit_or, m3 j hj, Nat.testBit_two_pow]
      unfold upn
      by_cases c : j = k
      · subst c; simp
      · have : ¬ k = j := fun x => c x.symm
        simp [c, this]
  · rw [hget, if_neg (key_ne (by decide) _ _), if_pos rfl]
    exact hn1
  · by_cases c : i = k
    · subst c
      rw [hget, if_pos rfl]
      refine ⟨rfl, ?_, ?_⟩
      · show wrap64 (p + 1) = upn pa i p i + 1
        rw [wrap_little (by omega) (by omega)]; unfold upn; rw [if_pos rfl]
      · show (nwV (ptV f0 g) (i : Int)).n1 = upn pi i (L + 1) i
        rw [hn1]; unfold upn; rw [if_pos rfl]
    · rw [hget, if_neg (key_ne2 (by omega) _ _), if_neg (key_ne (by decide) _ _)]
      have := h.pro i i1 (ho i i1 i2 c)
      unfold upn
      rw [if_neg c, if_neg c]
      exact this
  · by_cases c : i = k
    · unfold upn; rw [if_pos c]; omega
    · have := h.low i i1 (ho i i1 i2 c)
      unfold upn; rw [if_neg c]; omega
  · by_cases c : i = k <;> by_cases d : j = k
    · omega
    · have := h.low j j1 (ho j j1 j2 d)
      unfold upn at e; rw [if_pos c, if_neg d] at e; omega
    · have := h.low i i1 (ho i i1 i2 c)
      unfold upn at e; rw [if_neg c, if_pos d] at e; omega
    · unfold upn at e; rw [if_neg c, if_neg d] at e
      exact h.inj i j i1 j1 (ho i i1 i2 c) (ho j j1 j2 d) e
theorem ProcF.full (h : ProcF us pa pi L g) (h2 : ∀ j, j < 8 → us j = true) (p : Int) : nwA f0 g = 8 ∧ ProcF us pa pi L (nwT f0 g p) := by
  have ha : nwA f0 g = 8 := free8_none (fun j j1 j2 => by
    have := h.u (i := j.toNat) (by omega)
    rw [show ((j.toNat : Nat) : Int) = j by omega, (isU_in (by omega)).1, h2 _ (by omega)] at this
    exact this)
  refine ⟨ha, h.same fun j => ?_⟩
  rw [nw_full _ (by rw [ha]; omega)]
  exact get_get
theorem ProcF.free (h : ProcF us pa pi L g) {k : Nat} (hk : k < 8) (h1 : us k = true) : ProcF (upn us k false) pa pi L (frT f0 g (k : Int)) := by
  have hR : isR f0 g (k : Int) = true := by rw [h.r hk, h1]
  have hget := fr_get hR
  have ho : ∀ j : Nat, upn us k false j = true → j ≠ k ∧ us j = true := fun j hj => by
    unfold upn at hj
    by_cases c : j = k
    · rw [if_pos c] at hj; simp at hj
    · rw [if_neg c] at hj; exact ⟨c, hj⟩
  obtain ⟨m, m1, m2, m3⟩ := h.tab
  refine ⟨?_, ?_, fun i i1 i2 => ?_, fun i i1 i2 => h.low i i1 (ho i i2).2, fun i j i1 j1 i2 j2 e => h.inj i j i1 j1 (ho i i2).2 (ho j j2).2 e⟩
  · obtain ⟨m', o1, o2, o3⟩ := clr_nat m1 (show k < 16 by omega)
    refine ⟨m', o2, ?_, fun j hj => ?_⟩
    · rw [hget, if_pos rfl]
      show clrN (vgetF f0 g (3, 0)).n0 k = _
      rw [m2, o1]
    · rw [o3, m3 j hj]
      unfold upn
      by_cases c : j = k
      · subst c; simp
      · simp [c]
  · rw [hget, if_pos rfl]; exact h.last
  · obtain ⟨c, hu⟩ := ho i i2
    rw [hget, if_neg (key_ne (by decide) _ _), if_neg (key_ne (by decide) _ _), if_neg (key_ne2 (by omega) _ _)]
    exact h.pro i i1 hu
theorem ProcF.gone (h : ProcF us pa pi L g) {k : Nat} (hk : k < 8) (h1 : us k = false) : ProcF us pa pi L (frT f0 g (k : Int)) := by
  rw [fr_no (by rw [h.r hk, h1])]
  exact h.same (get_stT _)
end

/-- How many of the first n are used. -/
def cntN (us : Nat → Bool) : Nat → Nat
  | 0 => 0
  | n + 1 => cntN us n + (us n).toNat
def cntU (us : Nat → Bool) : Nat := cntN us 8
theorem cntN_le (us : Nat → Bool) (n : Nat) : cntN us n ≤ n := by
  induction n with
  | zero => exact Nat.le_refl _
  | succ n ih =>
    have : (us n).toNat ≤ 1 := Bool.toNat_le _
    show cntN us n + (us n).toNat ≤ n + 1
    omega
theorem cntN_full {us : Nat → Bool} {n : Nat} (h : ¬ cntN us n < n) : ∀ j, j < n → us j = true := by
  induction n with
  | zero => intro j hj; omega
  | succ n ih =>
    have h' : ¬ cntN us n + (us n).toNat < n + 1 := h
    have := cntN_le us n
    cases hu : us n with
    | false => rw [hu] at h'; simp at h'; omega
    | true =>
      rw [hu] at h'
      simp only [Bool.toNat_true] at h'
      intro j hj
      by_cases c : j = n
      · rw [c, hu]
      · exact ih (by omega) j (by omega)
theorem cntN_room {us : Nat → Bool} {n : Nat} (h : cntN us n < n) : ∃ k, k < n ∧ us k = false ∧ ∀ j, j < k → us j = true := by
  induction n with
  | zero => omega
  | succ n ih =>
    by_cases c : cntN us n < n
    · obtain ⟨k, k1, k2, k3⟩ := ih c
      exact ⟨k, by omega, k2, k3⟩
    · have hall := cntN_full c
      have h' : cntN us n + (us n).toNat < n + 1 := h
      cases hu : us n with
      | false => exact ⟨n, by omega, hu, hall⟩
      | true => rw [hu] at h'; simp only [Bool.toNat_true] at h'; omega
theorem cntN_off {us : Nat → Bool} {k n : Nat} (hk : n ≤ k) (x : Bool) : cntN (upn us k x) n = cntN us n := by
  induction n with
  | zero => rfl
  | succ n ih =>
    show cntN (upn us k x) n + (upn us k x n).toNat = cntN us n + (us n).toNat
    rw [ih (by omega), show upn us k x n = us n from if_neg (by omega)]
theorem cntN_put {us : Nat → Bool} {k n : Nat} (hk : k < n) (x : Bool) : cntN (upn us k x) n + (us k).toNat = cntN us n + x.toNat := by
  induction n with
  | zero => omega
  | succ n ih =>
    show cntN (upn us k x) n + (upn us k x n).toNat + (us k).toNat = cntN us n + (us n).toNat + x.toNat
    by_cases c : k = n
    · subst c
      rw [cntN_off (Nat.le_refl _), show upn us k x k = x from if_pos rfl]
      omega
    · have := ih (by omega)
      rw [show upn us k x n = us n from if_neg (by omega)]
      omega
theorem cnt_le (us : Nat → Bool) : cntU us ≤ 8 := cntN_le _ _
theorem cnt_none : cntU (fun _ => false) = 0 := by decide
theorem cnt_full {us : Nat → Bool} (h : ¬ cntU us < 8) : ∀ j, j < 8 → us j = true := cntN_full h
theorem cnt_room {us : Nat → Bool} (h : cntU us < 8) : ∃ k, k < 8 ∧ us k = false ∧ ∀ j, j < k → us j = true := cntN_room h
theorem cnt_add {us : Nat → Bool} {k : Nat} (hk : k < 8) (h : us k = false) : cntU (upn us k true) = cntU us + 1 := by
  have := cntN_put (us := us) hk true
  rw [h] at this
  simp only [Bool.toNat_true, Bool.toNat_false, Nat.add_zero] at this
  exact this
theorem cnt_sub {us : Nat → Bool} {k : Nat} (hk : k < 8) (h : us k = true) : cntU us = cntU (upn us k false) + 1 := by
  have := cntN_put (us := us) hk false
  rw [h] at this
  simp only [Bool.toNat_true, Bool.toNat_false, Nat.add_zero] at this
  exact this.symm
theorem table0 : ProcF (fun _ => false) (fun _ => 0) (fun _ => 0) 0 g0 :=
  ⟨⟨0, by decide, by decide +kernel, fun j hj => by simp⟩, by decide +kernel, fun i _ h => by simp at h, fun i _ h => by simp at h, fun i j _ _ h => by simp at h⟩
end Go.Proofs.Ytiklclmpealllaa
