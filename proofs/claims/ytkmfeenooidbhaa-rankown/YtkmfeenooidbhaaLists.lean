/- Lists of numbers that rise, one for each holder: who has what; plain facts, no conditions but their own. -/
import Derived.Test.YtkmfeenooidbhaaBase
namespace Go.Proofs.Ytkmfeenooidbhaa

/-- The number at place i. -/
def zd (l : List Int) (i : Nat) : Int := l.getD i 0
/-- The list of holder i. -/
def ld (ls : List (List Int)) (i : Nat) : List Int := ls.getD i []
/-- Each is above the one ahead of it. -/
def Rising (l : List Int) : Prop := ∀ i j, i < j → j < l.length → zd l i < zd l j
def isIn (l : List Int) (x : Int) : Bool := decide (x ∈ l)
def without (l : List Int) (x : Int) : List Int := l.filter (fun y => decide (y ≠ x))
/-- The last one, -1 where there is none. -/
def top (l : List Int) : Int := if l.length = 0 then -1 else zd l (l.length - 1)
/-- The first holder of r, -1 where there is none. -/
def ownr (ls : List (List Int)) (r : Int) : Int := if ls.any (fun l => isIn l r) then ((ls.findIdx (fun l => isIn l r) : Nat) : Int) else -1

theorem zd_get {l : List Int} {i : Nat} (h : i < l.length) : zd l i = l[i] := by simp [zd, h]
theorem ld_get {ls : List (List Int)} {i : Nat} (h : i < ls.length) : ld ls i = ls[i] := by simp [ld, h]
theorem zd_mem {l : List Int} {i : Nat} (h : i < l.length) : zd l i ∈ l := by rw [zd_get h]; exact List.getElem_mem h
theorem mem_zd {l : List Int} {x : Int} (h : x ∈ l) : ∃ i, i < l.length ∧ zd l i = x := by
  obtain ⟨i, hi, e⟩ := List.getElem_of_mem h
  exact ⟨i, hi, by rw [zd_get hi, e]⟩

theorem isIn_iff {l : List Int} {x : Int} : isIn l x = true ↔ x ∈ l := by simp [isIn]
theorem isIn_yes {l : List Int} {x : Int} (h : x ∈ l) : isIn l x = true := isIn_iff.2 h
theorem isIn_no {l : List Int} {x : Int} (h : x ∉ l) : isIn l x = false := by simp [isIn, h]

theorem Rising.nil : Rising [] := fun i j _ h => by simp at h
theorem Rising.inj {l : List Int} (h : Rising l) {i j : Nat} (hi : i < l.length) (hj : j < l.length) (e : zd l i = zd l j) : i = j := by
  rcases Nat.lt_trichotomy i j with a | a | a
  · have := h i j a hj; omega
  · exact a
  · have := h j i a hi; omega

theorem zd_left {a b : List Int} {i : Nat} (h : i < a.length) : zd (a ++ b) i = zd a i := by simp [zd, List.getElem?_append_left h]
theorem zd_last (a : List Int) (x : Int) : zd (a ++ [x]) a.length = x := by simp [zd]

theorem top_nil : top [] = -1 := rfl
theorem top_last (l : List Int) (x : Int) : top (l ++ [x]) = x := by
  unfold top
  rw [if_neg (by simp), List.length_append, List.length_singleton, Nat.add_sub_cancel, zd_last]

theorem le_top {l : List Int} (h : Rising l) {x : Int} (hx : x ∈ l) : x ≤ top l := by
  obtain ⟨i, hi, rfl⟩ := mem_zd hx
  unfold top
  rw [if_neg (by omega)]
  rcases Nat.lt_or_ge i (l.length - 1) with a | a
  · have := h i (l.length - 1) a (by omega); omega
  · rw [show i = l.length - 1 by omega]; exact Int.le_refl _

theorem top_mem {l : List Int} (h : l ≠ []) : top l ∈ l := by
  unfold top
  have : 0 < l.length := List.length_pos_iff.2 h
  rw [if_neg (by omega)]
  exact zd_mem (by omega)

theorem top_lt {l : List Int} (hl : ∀ x ∈ l, 0 ≤ x) (hr : Rising l) {r : Int} : top l < r ↔ 0 ≤ r ∧ ∀ x ∈ l, x < r := by
  constructor
  · intro h
    refine ⟨?_, fun x hx => by have := le_top hr hx; omega⟩
    by_cases e : l = []
    · subst e; rw [top_nil] at h; omega
    · have := hl _ (top_mem e); omega
  · rintro ⟨h0, h1⟩
    by_cases e : l = []
    · subst e; rw [top_nil]; omega
    · exact h1 _ (top_mem e)

theorem Rising.snoc {l : List Int} (h : Rising l) {x : Int} (hx : top l < x) : Rising (l ++ [x]) := by
  intro i j hij hj
  simp at hj
  rcases Nat.lt_or_ge j l.length with a | a
  · rw [zd_left a, zd_left (by omega)]; exact h i j hij a
  · obtain rfl : j = l.length := by omega
    rw [zd_last, zd_left hij]
    have := le_top h (zd_mem hij)
    omega

theorem without_mem {l : List Int} {x y : Int} : y ∈ without l x ↔ y ∈ l ∧ y ≠ x := by simp [without]

theorem rising_pair {l : List Int} : Rising l ↔ l.Pairwise (fun a b => a < b) := by
  rw [List.pairwise_iff_getElem]
  constructor
  · intro h i j hi hj hij
    have := h i j hij hj
    rwa [zd_get hi, zd_get hj] at this
  · intro h i j hij hj
    rw [zd_get (by omega), zd_get hj]
    exact h i j (by omega) hj hij

theorem Rising.without {l : List Int} (h : Rising l) (x : Int) : Rising (without l x) :=
  rising_pair.2 ((rising_pair.1 h).filter _)

/-- Of a list that rises, to strike a number is to strike its place. -/
theorem without_at : ∀ {l : List Int}, Rising l → ∀ {i : Nat}, i < l.length → without l (zd l i) = l.eraseIdx i := by
  intro l
  induction l with
  | nil => intro _ i hi; simp at hi
  | cons a l ih =>
    intro h i hi
    have hp := rising_pair.1 h
    rw [List.pairwise_cons] at hp
    rcases i with _ | i
    · have e : zd (a :: l) 0 = a := rfl
      rw [e]
      unfold Go.Proofs.Ytkmfeenooidbhaa.without
      rw [List.filter_cons_of_neg (by simp), List.eraseIdx_cons_zero, List.filter_eq_self]
      intro y hy
      have := hp.1 y hy
      simp; omega
    · have hi' : i < l.length := by simpa using hi
      have e : zd (a :: l) (i + 1) = zd l i := by simp [zd]
      rw [e]
      have hlt := hp.1 _ (zd_mem hi')
      unfold Go.Proofs.Ytkmfeenooidbhaa.without
      rw [List.filter_cons_of_pos (by simp; omega), List.eraseIdx_cons_succ]
      congr 1
      exact ih (rising_pair.2 hp.2) hi'

theorem without_len {l : List Int} (h : Rising l) {x : Int} (hx : x ∈ l) : (without l x).length + 1 = l.length := by
  obtain ⟨i, hi, rfl⟩ := mem_zd hx
  rw [without_at h hi, List.length_eraseIdx, if_pos hi]
  omega

theorem without_le (l : List Int) (x : Int) : (without l x).length ≤ l.length := List.length_filter_le _ _

theorem without_none {l : List Int} {x : Int} (h : x ∉ l) : without l x = l := by
  unfold without
  rw [List.filter_eq_self]
  intro y hy
  simp
  rintro rfl
  exact h hy

theorem ld_set_self {ls : List (List Int)} {i : Nat} (h : i < ls.length) (x : List Int) : ld (ls.set i x) i = x := by simp [ld, h]
theorem ld_set_other {ls : List (List Int)} {i j : Nat} (h : i ≠ j) (x : List Int) : ld (ls.set i x) j = ld ls j := by simp [ld, h]
theorem ld_set {ls : List (List Int)} {i j : Nat} (h : i < ls.length) (x : List Int) : ld (ls.set i x) j = if i = j then x else ld ls j := by
  by_cases e : i = j
  · subst e; rw [if_pos rfl, ld_set_self h]
  · rw [if_neg e, ld_set_other e]

theorem ownr_none {ls : List (List Int)} {r : Int} (h : ∀ i, i < ls.length → r ∉ ld ls i) : ownr ls r = -1 := by
  unfold ownr
  rw [if_neg]
  simp only [List.any_eq_true, not_exists, not_and]
  intro l hl
  obtain ⟨i, hi, rfl⟩ := List.getElem_of_mem hl
  have := h i hi
  rw [ld_get hi] at this
  simp [isIn, this]

theorem ownr_first {ls : List (List Int)} {r : Int} {i : Nat} (hi : i < ls.length) (hr : r ∈ ld ls i) (h : ∀ j, j < i → r ∉ ld ls j) : ownr ls r = i := by
  unfold ownr
  rw [if_pos]
  · congr 1
    rw [List.findIdx_eq hi]
    refine ⟨by rw [← ld_get hi]; exact isIn_yes hr, fun j hj => ?_⟩
    have := h j hj
    rw [ld_get (by omega)] at this
    exact isIn_no this
  · simp only [List.any_eq_true]
    exact ⟨ls[i], List.getElem_mem hi, by rw [← ld_get hi]; exact isIn_yes hr⟩

theorem ownr_is (ls : List (List Int)) (r : Int) : (ownr ls r = -1 ∧ ∀ i, i < ls.length → r ∉ ld ls i) ∨ ∃ i : Nat, i < ls.length ∧ ownr ls r = i ∧ r ∈ ld ls i := by
  by_cases h : ls.any (fun l => isIn l r) = true
  · right
    have h2 : ∃ x ∈ ls, isIn x r = true := by simpa using h
    have hlt := List.findIdx_lt_length_of_exists h2
    refine ⟨ls.findIdx (fun l => isIn l r), hlt, by unfold ownr; rw [if_pos h], ?_⟩
    have := List.findIdx_getElem (w := hlt)
    rw [ld_get hlt]
    exact isIn_iff.1 this
  · left
    refine ⟨by unfold ownr; rw [if_neg h], fun i hi hr => h ?_⟩
    rw [ld_get hi] at hr
    exact List.any_eq_true.2 ⟨_, List.getElem_mem hi, isIn_yes hr⟩

/-- Lists that rise, from nought on, that have nothing in common. -/
structure Good (ls : List (List Int)) : Prop where
  rise : ∀ i, i < ls.length → Rising (ld ls i)
  pos : ∀ i, i < ls.length → ∀ x ∈ ld ls i, 0 ≤ x
  once : ∀ i j x, i < ls.length → j < ls.length → x ∈ ld ls i → x ∈ ld ls j → i = j

theorem ownr_at {ls : List (List Int)} (h : Good ls) {r : Int} {i : Nat} (hi : i < ls.length) (hr : r ∈ ld ls i) : ownr ls r = i :=
  ownr_first hi hr (fun j hj hc => by have := h.once j i r (by omega) hi hc hr; omega)

theorem ld_empty (n i : Nat) : ld (List.replicate n []) i = [] := by
  by_cases h : i < n
  · simp [ld, h]
  · simp [ld, List.getElem?_eq_none (show (List.replicate n ([] : List Int)).length ≤ i by simp; omega)]

theorem Good.empty (n : Nat) : Good (List.replicate n []) :=
  ⟨fun i _ => by rw [ld_empty]; exact Rising.nil, fun i _ x hx => by rw [ld_empty] at hx; simp at hx, fun i j x _ _ hx => by rw [ld_empty] at hx; simp at hx⟩

theorem Good.take {ls : List (List Int)} (h : Good ls) {i : Nat} (hi : i < ls.length) {r : Int} (ht : top (ld ls i) < r) (ho : ownr ls r = -1) : Good (ls.set i (ld ls i ++ [r])) := by
  have hno : ∀ j, j < ls.length → r ∉ ld ls j := by
    rcases ownr_is ls r with ⟨_, h⟩ | ⟨j, hj, e, _⟩
    · exact h
    · omega
  have h0 := ((top_lt (h.pos i hi) (h.rise i hi)).1 ht).1
  have hm : ∀ j x, j < ls.length → x ∈ ld (ls.set i (ld ls i ++ [r])) j → x ∈ ld ls j ∨ (x = r ∧ j = i) := by
    intro j x hj hx
    rw [ld_set hi] at hx
    by_cases e : i = j
    · subst e
      rw [if_pos rfl] at hx
      simp at hx
      rcases hx with hx | hx
      · exact .inl hx
      · exact .inr ⟨hx, rfl⟩
    · rw [if_neg e] at hx; exact .inl hx
  refine ⟨fun j hj => ?_, fun j hj x hx => ?_, fun j k x hj hk hx hy => ?_⟩
  · rw [List.length_set] at hj
    rw [ld_set hi]
    by_cases e : i = j
    · subst e; rw [if_pos rfl]; exact (h.rise i hi).snoc ht
    · rw [if_neg e]; exact h.rise j hj
  · rw [List.length_set] at hj
    rcases hm j x hj hx with hx | ⟨rfl, _⟩
    · exact h.pos j hj x hx
    · exact h0
  · rw [List.length_set] at hj hk
    rcases hm j x hj hx with hx1 | ⟨e0, e1⟩ <;> rcases hm k x hk hy with hy1 | ⟨e3, e2⟩
    · exact h.once j k x hj hk hx1 hy1
    · rw [e3] at hx1; exact absurd hx1 (hno j hj)
    · rw [e0] at hy1; exact absurd hy1 (hno k hk)
    · omega

theorem Good.drop {ls : List (List Int)} (h : Good ls) {i : Nat} (hi : i < ls.length) (r : Int) : Good (ls.set i (without (ld ls i) r)) := by
  have hm : ∀ j x, x ∈ ld (ls.set i (without (ld ls i) r)) j → x ∈ ld ls j := by
    intro j x hx
    rw [ld_set hi] at hx
    by_cases e : i = j
    · subst e; rw [if_pos rfl] at hx; exact (without_mem.1 hx).1
    · rw [if_neg e] at hx; exact hx
  refine ⟨fun j hj => ?_, fun j hj x hx => ?_, fun j k x hj hk hx hy => ?_⟩
  · rw [List.length_set] at hj
    rw [ld_set hi]
    by_cases e : i = j
    · subst e; rw [if_pos rfl]; exact (h.rise i hi).without r
    · rw [if_neg e]; exact h.rise j hj
  · rw [List.length_set] at hj; exact h.pos j hj x (hm j x hx)
  · rw [List.length_set] at hj hk; exact h.once j k x hj hk (hm j x hx) (hm k x hy)

/-- How a Take ends. -/
def takeOut (ls : List (List Int)) (who r : Int) : Out :=
  if 0 ≤ who ∧ who < ls.length then (if top (ld ls who.toNat) < r then (if ownr ls r = -1 then .done else .halts 6 r) else .halts 5 r) else .halts 3 who
/-- What all hold behind it. -/
def takeTo (ls : List (List Int)) (who r : Int) : List (List Int) :=
  if 0 ≤ who ∧ who < ls.length ∧ top (ld ls who.toNat) < r ∧ ownr ls r = -1 then ls.set who.toNat (ld ls who.toNat ++ [r]) else ls
/-- How a Let ends. -/
def letOut (ls : List (List Int)) (who r : Int) : Out :=
  if 0 ≤ who ∧ who < ls.length then (if r ∈ ld ls who.toNat then .done else .halts 6 r) else .halts 3 who
def letTo (ls : List (List Int)) (who r : Int) : List (List Int) :=
  if 0 ≤ who ∧ who < ls.length ∧ r ∈ ld ls who.toNat then ls.set who.toNat (without (ld ls who.toNat) r) else ls

theorem takeTo_len (ls : List (List Int)) (who r : Int) : (takeTo ls who r).length = ls.length := by unfold takeTo; split <;> simp
theorem letTo_len (ls : List (List Int)) (who r : Int) : (letTo ls who r).length = ls.length := by unfold letTo; split <;> simp
end Go.Proofs.Ytkmfeenooidbhaa
