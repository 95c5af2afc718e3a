
/- Two processes' descriptors: what each call leaves, as plain functions; no conditions. -/
import Derived.Test.YtiklclmpealllaaPrK
namespace Go.Proofs.Ytiklclmpealllaa
open Go.RowKit
set_option maxRecDepth 100000
set_option linter.unusedSimpArgs false

/-- o: what the two have, six places each. -/
structure FdsF (o : Nat → Int) (g : VwF) : Prop where
  r0 : isR f0 g 0 = true
  r1 : isR f0 g 1 = true
  r2 : isR f0 g 2 = false
  d : ∀ p d : Nat, p < 2 → d < 6 → dsc (vgetF f0 g (4, (p : Int))) (d : Int) = o (p * 6 + d)
  b : ∀ j, j < 12 → 0 ≤ o j ∧ o j ≤ 12

section
variable {o : Nat → Int} {g g' : VwF}
theorem FdsF.same (h : FdsF o g) (hg : ∀ j, vgetF f0 g' j = vgetF f0 g j) : FdsF o g' :=
  ⟨by rw [sees_isR hg]; exact h.r0, by rw [sees_isR hg]; exact h.r1, by rw [sees_isR hg]; exact h.r2, fun p d h1 h2 => by rw [hg]; exact h.d p d h1 h2, h.b⟩
theorem FdsF.r (h : FdsF o g) {p : Nat} (hp : p < 2) : isR f0 g (p : Int) = true := by
  obtain rfl | rfl : p = 0 ∨ p = 1 := by omega
  · exact h.r0
  · exact h.r1
theorem FdsF.sd_f (h : FdsF o g) {i d a : Int} (hb : sdB f0 g i d a = false) : FdsF o (sdT f0 g i d a) := by rw [sd_no hb]; exact h.same (get_stT _)
theorem FdsF.sd_is (h : FdsF o g) {p d : Nat} (hp : p < 2) (hd : d < 6) {a : Int} (ha : a < 12) : sdB f0 g (p : Int) (d : Int) a = true := by
  unfold sdB fdR
  rw [h.r hp, decide_eq_true (show 0 ≤ (d : Int) ∧ (d : Int) < 6 by omega), decide_eq_true ha]; rfl
theorem FdsF.sd (h : FdsF o g) {p d : Nat} (hp : p < 2) (hd : d < 6) {z : Int} (z0 : 0 ≤ z) (z1 : z ≤ 12) : FdsF (fun j => if j = p * 6 + d then z else o j) (sdT f0 g (p : Int) (d : Int) (z - 1)) := by
  have hs := sd_get (h.sd_is hp hd (a := z - 1) (by omega))
  have hz : sdN (z - 1) = z := by unfold sdN; split <;> omega
  have hu : ∀ i : Int, isR f0 (sdT f0 g (p : Int) (d : Int) (z - 1)) i = isR f0 g i := by
    intro i
    have e1 : isU f0 (sdT f0 g (p : Int) (d : Int) (z - 1)) i = isU f0 g i := by
      unfold isU
      rw [show ptV f0 (sdT f0 g (p : Int) (d : Int) (z - 1)) = ptV f0 g from by rw [show ptV f0 _ = vgetF f0 _ (3, 0) from rfl, hs, if_neg (key_ne (by decide) _ _)]]
    have e2 : (vgetF f0 (sdT f0 g (p : Int) (d : Int) (z - 1)) (4, i)).n0 = (vgetF f0 g (4, i)).n0 := by
      rw [hs]
      split
      · rename_i c
        have c2 : i = (p : Int) := by injection c
        subst c2; exact set_n0 _ _ _
      · rfl
    unfold isR stA
    rw [e1, show (prV f0 (sdT f0 g (p : Int) (d : Int) (z - 1)) i).n0 = (prV f0 g i).n0 from e2]
  refine ⟨by rw [hu]; exact h.r0, by rw [hu]; exact h.r1, by rw [hu]; exact h.r2, fun q e hq he => ?_, fun j hj => ?_⟩
  · rw [hs]
    by_cases c : q = p
    · subst c
      rw [if_pos rfl, dsc_set _ (by omega) (by omega) _ (by omega) (by omega), hz]
      by_cases c2 : e = d
      · subst c2; rw [if_pos rfl, if_pos rfl]
      · rw [if_neg (by omega), if_neg (by omega)]; exact h.d q e hq he
    · rw [if_neg (key_ne2 (by omega) _ _), if_neg (by omega)]
      exact h.d q e hq he
  · have := h.b j hj
    show 0 ≤ (if j = p * 6 + d then z else o j) ∧ (if j = p * 6 + d then z else o j) ≤ 12
    split <;> omega
theorem no_file (g : VwF) (i d : Int) : sdB f0 g i d 12 = false := by unfold sdB; simp
theorem no_fd (g : VwF) (i : Int) (d : Nat) (a : Int) : sdB f0 g i (6 + (d : Int)) a = false := by
  unfold sdB fdR; rw [decide_eq_false (by omega : ¬ (0 ≤ 6 + (d : Int) ∧ 6 + (d : Int) < 6))]; simp
theorem FdsF.no3 (h : FdsF o g) (d a : Int) : sdB f0 g 2 d a = false := by unfold sdB fdR; rw [h.r2]; rfl
theorem FdsF.fd (h : FdsF o g) {p d : Nat} (hp : p < 2) (hd : d < 6) : fdV f0 g (p : Int) (d : Int) = .tuple #[.int .i64 (if 0 < o (p * 6 + d) then o (p * 6 + d) - 1 else 0), .bool (decide (0 < o (p * 6 + d)))] ∧ fdB f0 g (p : Int) (d : Int) = decide (0 < o (p * 6 + d)) := by
  have e1 : fdB f0 g (p : Int) (d : Int) = decide (0 < o (p * 6 + d)) := by
    have := h.b (p * 6 + d) (by omega)
    unfold fdB fdR
    rw [h.r hp, decide_eq_true (show 0 ≤ (d : Int) ∧ (d : Int) < 6 by omega), show dsc (prV f0 g (p : Int)) (d : Int) = o (p * 6 + d) from h.d p d hp hd]
    simp only [Bool.true_and, decide_eq_decide]
    omega
  refine ⟨?_, e1⟩
  unfold fdV fdA
  rw [e1, show dsc (prV f0 g (p : Int)) (d : Int) = o (p * 6 + d) from h.d p d hp hd]
  by_cases c : 0 < o (p * 6 + d)
  · rw [if_pos c, decide_eq_true c, if_pos rfl]
  · rw [if_neg c, decide_eq_false c]; rfl

/-- The least place from n on that has none, -1 where there is none (r places are left). -/
def frk (o : Nat → Int) (p : Nat) : Nat → Int
  | 0 => -1
  | r + 1 => if 0 < o (p * 6 + (5 - r)) then frk o p r else ((5 - r : Nat) : Int)
theorem frk_all {o : Nat → Int} {p r : Nat} (hr : r ≤ 6) : (frk o p r = -1 ∧ ∀ d, 6 - r ≤ d → d < 6 → 0 < o (p * 6 + d)) ∨ ∃ d : Nat, frk o p r = (d : Int) ∧ 6 - r ≤ d ∧ d < 6 ∧ ¬ 0 < o (p * 6 + d) ∧ ∀ e, 6 - r ≤ e → e < d → 0 < o (p * 6 + e) := by
  induction r with
  | zero => exact .inl ⟨rfl, fun d h1 h2 => by omega⟩
  | succ r ih =>
    have e : frk o p (r + 1) = if 0 < o (p * 6 + (5 - r)) then frk o p r else ((5 - r : Nat) : Int) := rfl
    by_cases c : 0 < o (p * 6 + (5 - r))
    · rw [if_pos c] at e
      have hb : ∀ d, 6 - (r + 1) ≤ d → ¬ 6 - r ≤ d → 0 < o (p * 6 + d) := fun d h1 h2 => by
        obtain rfl : d = 5 - r := by omega
        exact c
      rcases ih (by omega) with ⟨h1, h2⟩ | ⟨d, h1, h2, h3, h4, h5⟩
      · refine .inl ⟨by rw [e, h1], fun d d1 d2 => ?_⟩
        by_cases x : 6 - r ≤ d
        · exact h2 d x d2
        · exact hb d d1 x
      · refine .inr ⟨d, by rw [e, h1], by omega, h3, h4, fun k k1 k2 => ?_⟩
        by_cases x : 6 - r ≤ k
        · exact h5 k x k2
        · exact hb k k1 x
    · rw [if_neg c] at e
      exact .inr ⟨5 - r, e, by omega, by omega, c, fun k k1 k2 => by omega⟩
/-- FreeFd's answer, against what was found. -/
theorem FdsF.ff (h : FdsF o g) {p : Nat} (hp : p < 2) : (frk o p 6 = -1 ∧ ffV f0 g (p : Int) = .tuple #[.int .i64 0, .bool false]) ∨ (0 ≤ frk o p 6 ∧ ffV f0 g (p : Int) = .tuple #[.int .i64 (frk o p 6), .bool true]) := by
  rcases frk_all (o := o) (p := p) (r := 6) (by omega) with ⟨h1, h2⟩ | ⟨d, h1, h2, h3, h4, h5⟩
  · refine .inl ⟨h1, ?_⟩
    have ha : ffA f0 g (p : Int) = 6 := ffA_none (fun j hj => by rw [(h.fd hp hj).2, decide_eq_true (h2 j (by omega) hj)])
    have hb : ffB f0 g (p : Int) = false := by unfold ffB; rw [ha]; simp
    unfold ffV
    rw [hb]; rfl
  · refine .inr ⟨by omega, ?_⟩
    have ha : ffA f0 g (p : Int) = (d : Int) := ffA_at h3 (fun j hj => by rw [(h.fd hp (by omega)).2, decide_eq_true (h5 j (by omega) hj)]) (by rw [(h.fd hp h3).2, decide_eq_false h4])
    have hb : ffB f0 g (p : Int) = true := by unfold ffB; rw [ha, h.r hp, decide_eq_true (by omega : (d : Int) < 6)]; rfl
    unfold ffV
    rw [hb, ha, h1]; rfl
end
theorem fds0 : FdsF (fun _ => 0) r2 := by
  refine ⟨by decide +kernel, by decide +kernel, by decide +kernel, fun p d hp hd => ?_, fun j _ => by decide⟩
  obtain rfl | rfl : p = 0 ∨ p = 1 := by omega
  all_goals obtain rfl | rfl | rfl | rfl | rfl | rfl : d = 0 ∨ d = 1 ∨ d = 2 ∨ d = 3 ∨ d = 4 ∨ d = 5 := by omega
  all_goals decide +kernel
end Go.Proofs.Ytiklclmpealllaa
