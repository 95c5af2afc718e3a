/- What holds of the tries of one lock, however they step; no conditions. -/
import Derived.Test.YtlfcbijgncpieaaRow
namespace Go.Proofs.Ytlfcbijgncpieaa

/-- What is held of tries: the next ticket n, whose turn it is t, the last ticket that came to hold. -/
structure Good (n t : Nat) (last : Int) (ts : List T) : Prop where
  turn : t ≤ n
  each : ∀ i, i < ts.length → ((td ts i).s = 0 ∧ (td ts i).t = -1) ∨ ((td ts i).s = 1 ∧ (t : Int) ≤ (td ts i).t ∧ (td ts i).t < n) ∨ ((td ts i).s = 2 ∧ (td ts i).t = t ∧ t < n) ∨ ((td ts i).s = 3 ∧ 0 ≤ (td ts i).t ∧ (td ts i).t < t)
  apart : ∀ i j, i < ts.length → j < ts.length → i ≠ j → 0 ≤ (td ts i).t → (td ts i).t ≠ (td ts j).t
  last : ((∀ i, i < ts.length → (td ts i).s ≠ 2) ∧ last = (t : Int) - 1) ∨ ((∃ i, i < ts.length ∧ (td ts i).s = 2) ∧ last = t)

theorem td_rep {k i : Nat} (hi : i < k) (x : T) : td (List.replicate k x) i = x := by simp [td, hi]

theorem Good.start (k : Nat) : Good 0 0 (-1) (List.replicate k ⟨0, 0, -1⟩) := by
  have e : ∀ i, i < (List.replicate k (⟨0, 0, -1⟩ : T)).length → td (List.replicate k ⟨0, 0, -1⟩) i = ⟨0, 0, -1⟩ := fun i hi => td_rep (by simpa using hi) _
  refine ⟨Nat.le_refl _, fun i hi => ?_, fun i j hi hj _ h => ?_, .inl ⟨fun i hi => ?_, by simp⟩⟩
  · rw [e i hi]; exact .inl ⟨rfl, rfl⟩
  · rw [e i hi] at h; simp at h
  · rw [e i hi]; simp

theorem Good.fresh {n t : Nat} {last : Int} {ts : List T} (h : Good n t last ts) {j : Nat} (hs : (td ts j).s = 0) : Good (n + 1) t last (ts.set j ⟨0, 1, n⟩) := by
  have ht := h.turn
  refine ⟨by omega, fun i hi => ?_, fun i i' hi hi' hne h0 => ?_, ?_⟩
  · rw [List.length_set] at hi
    rw [td_set hi]
    by_cases e : j = i
    · rw [if_pos e]; refine .inr (.inl ⟨rfl, ?_, ?_⟩) <;> simp <;> omega
    · rw [if_neg e]
      rcases h.each i hi with g | g | g | g
      · exact .inl g
      · exact .inr (.inl ⟨g.1, g.2.1, by omega⟩)
      · exact .inr (.inr (.inl ⟨g.1, g.2.1, by omega⟩))
      · exact .inr (.inr (.inr g))
  · rw [List.length_set] at hi hi'
    rw [td_set hi] at h0 ⊢
    rw [td_set hi']
    by_cases e : j = i
    · subst e
      rw [if_pos rfl, if_neg hne]
      rcases h.each i' hi' with g | g | g | g <;> simp <;> omega
    · rw [if_neg e] at h0 ⊢
      by_cases e' : j = i'
      · rw [if_pos e']
        rcases h.each i hi with g | g | g | g <;> simp <;> omega
      · rw [if_neg e']; exact h.apart i i' hi hi' hne h0
  · rcases h.last with ⟨g, e⟩ | ⟨⟨i, hi, g⟩, e⟩
    · refine .inl ⟨fun i hi => ?_, e⟩
      rw [List.length_set] at hi
      rw [td_set hi]
      by_cases e : j = i
      · rw [if_pos e]; simp
      · rw [if_neg e]; exact g i hi
    · refine .inr ⟨⟨i, by simpa using hi, ?_⟩, e⟩
      have : j ≠ i := by rintro rfl; omega
      rw [td_other _ this]; exact g

theorem Good.lone {n t : Nat} {last : Int} {ts : List T} (h : Good n t last ts) {i j : Nat} (hi : i < ts.length) (hj : j < ts.length) (h1 : (td ts i).s = 2) (h2 : (td ts j).t = t) : i = j := by
  refine Classical.byContradiction fun hne => ?_
  have g : (td ts i).t = t := by rcases h.each i hi with g | g | g | g <;> omega
  exact h.apart i j hi hj hne (by omega) (by omega)

theorem Good.waits {n t : Nat} {last : Int} {ts : List T} (h : Good n t last ts) {j : Nat} (x : Int) (ha : (td ts j).a = 0) (hs : (td ts j).s = 1) (hx : (td ts j).t = x) : Good n t last (ts.set j ⟨0, 1, x⟩) := by
  have e : ts.set j ⟨0, 1, x⟩ = ts := by
    have : (⟨0, 1, x⟩ : T) = td ts j := by cases hh : td ts j; simp_all
    rw [this]
    apply List.ext_getElem
    · simp
    · intro i h1 h2
      rw [List.getElem_set]
      split
      · rename_i e; subst e; simp [td, h2]
      · rfl
  rw [e]; exact h

theorem Good.wins {n t : Nat} {last : Int} {ts : List T} (h : Good n t last ts) {j : Nat} (hj : j < ts.length) (hs : (td ts j).s = 1) (hx : (td ts j).t = t) : last = (t : Int) - 1 ∧ Good n t t (ts.set j ⟨0, 2, t⟩) := by
  have no : ∀ i, i < ts.length → (td ts i).s ≠ 2 := fun i hi e => by
    have := h.lone hi hj e hx
    subst this
    omega
  have hlt : t < n := by rcases h.each j hj with g | g | g | g <;> omega
  refine ⟨?_, h.turn, fun i hi => ?_, fun i i' hi hi' hne h0 => ?_, .inr ⟨⟨j, by simpa using hj, by rw [td_self hj]⟩, rfl⟩⟩
  · rcases h.last with ⟨_, e⟩ | ⟨⟨i, hi, g⟩, e⟩
    · exact e
    · exact absurd g (no i hi)
  · rw [List.length_set] at hi
    rw [td_set hi]
    by_cases e : j = i
    · rw [if_pos e]; exact .inr (.inr (.inl ⟨rfl, rfl, hlt⟩))
    · rw [if_neg e]; exact h.each i hi
  · rw [List.length_set] at hi hi'
    rw [td_set hi] at h0 ⊢
    rw [td_set hi']
    by_cases e : j = i
    · subst e
      rw [if_pos rfl, if_neg hne]
      have := h.apart j i' hj hi' hne (by omega)
      rw [hx] at this
      exact this
    · rw [if_neg e] at h0 ⊢
      by_cases e' : j = i'
      · subst e'
        rw [if_pos rfl]
        have := h.apart i j hi hj hne h0
        rw [hx] at this
        exact this
      · rw [if_neg e']; exact h.apart i i' hi hi' hne h0

theorem Good.leaves {n t : Nat} {last : Int} {ts : List T} (h : Good n t last ts) {j : Nat} (hj : j < ts.length) (hs : (td ts j).s = 2) : (td ts j).t = t ∧ t < n ∧ Good n (t + 1) last (ts.set j ⟨0, 3, t⟩) := by
  have hx : (td ts j).t = t ∧ t < n := by rcases h.each j hj with g | g | g | g <;> omega
  have no : ∀ i, i < ts.length → j ≠ i → (td ts i).t ≠ t := fun i hi hne e => by
    have := h.apart j i hj hi hne (by omega)
    omega
  refine ⟨hx.1, hx.2, by omega, fun i hi => ?_, fun i i' hi hi' hne h0 => ?_, .inl ⟨fun i hi => ?_, ?_⟩⟩
  · rw [List.length_set] at hi
    rw [td_set hi]
    by_cases e : j = i
    · rw [if_pos e]; refine .inr (.inr (.inr ⟨rfl, ?_, ?_⟩)) <;> simp <;> omega
    · rw [if_neg e]
      have := no i hi e
      rcases h.each i hi with g | g | g | g
      · exact .inl g
      · exact .inr (.inl ⟨g.1, by omega, by omega⟩)
      · omega
      · exact .inr (.inr (.inr ⟨g.1, g.2.1, by omega⟩))
  · rw [List.length_set] at hi hi'
    rw [td_set hi] at h0 ⊢
    rw [td_set hi']
    by_cases e : j = i
    · subst e
      rw [if_pos rfl, if_neg hne]
      exact fun e => no i' hi' hne e.symm
    · rw [if_neg e] at h0 ⊢
      by_cases e' : j = i'
      · subst e'
        rw [if_pos rfl]
        exact no i hi e
      · rw [if_neg e']; exact h.apart i i' hi hi' hne h0
  · rw [List.length_set] at hi
    rw [td_set hi]
    by_cases e : j = i
    · rw [if_pos e]; simp
    · rw [if_neg e]
      intro e2
      exact e (h.lone hi hj e2 hx.1).symm
  · rcases h.last with ⟨g, e⟩ | ⟨_, e⟩
    · exact absurd hs (g j hj)
    · rw [e]; omega
end Go.Proofs.Ytlfcbijgncpieaa
