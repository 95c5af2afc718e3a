
/- A statement's own tables beside one view; functions that turn at one place; how many of the first n; no conditions. -/
import Derived.Test.YtbhpkjedkccdpaaDoorPrB
namespace Go.Proofs.YtbhpkjedkccdpaaDoor
open Go.RowKit
set_option maxRecDepth 100000
set_option linter.unusedSimpArgs false

theorem wrap_little {x : Int} (h : -1000 ≤ x) (h' : x ≤ 1000) : wrap64 x = x := by unfold wrap64; omega
/-- A function that says another thing at one place. -/
def upn {α : Type} (f : Nat → α) (k : Nat) (x : α) : Nat → α := fun j => if j = k then x else f j

/-- How many of the first n are used. -/
def cntN (us : Nat → Bool) : Nat → Nat
  | 0 => 0
  | n + 1 => cntN us n + (us n).toNat
theorem cntN_le (us : Nat → Bool) (n : Nat) : cntN us n ≤ n := by
  induction n with
  | zero => exact Nat.le_refl _
  | succ n ih =>
    have : (us n).toNat ≤ 1 := Bool.toNat_le _
    show cntN us n + (us n).toNat ≤ n + 1
    omega
theorem cntN_full {us : Nat → Bool} {n : Nat} (h : ¬ cntN us n < n) : ∀ j, j < n → us j = true := by
  induction n with
  | zero => intro j hj; omega
  | succ n ih =>
    have h' : ¬ cntN us n + (us n).toNat < n + 1 := h
    have := cntN_le us n
    cases hu : us n with
    | false => rw [hu] at h'; simp at h'; omega
    | true =>
      rw [hu] at h'
      simp only [Bool.toNat_true] at h'
      intro j hj
      by_cases c : j = n
      · rw [c, hu]
      · exact ih (by omega) j (by omega)
theorem cntN_room {us : Nat → Bool} {n : Nat} (h : cntN us n < n) : ∃ k, k < n ∧ us k = false ∧ ∀ j, j < k → us j = true := by
  induction n with
  | zero => omega
  | succ n ih =>
    by_cases c : cntN us n < n
    · obtain ⟨k, k1, k2, k3⟩ := ih c
      exact ⟨k, by omega, k2, k3⟩
    · have hall := cntN_full c
      have h' : cntN us n + (us n).toNat < n + 1 := h
      cases hu : us n with
      | false => exact ⟨n, by omega, hu, hall⟩
      | true => rw [hu] at h'; simp only [Bool.toNat_true] at h'; omega
theorem cntN_off {us : Nat → Bool} {k n : Nat} (hk : n ≤ k) (x : Bool) : cntN (upn us k x) n = cntN us n := by
  induction n with
  | zero => rfl
  | succ n ih =>
    show cntN (upn us k x) n + (upn us k x n).toNat = cntN us n + (us n).toNat
    rw [ih (by omega), show upn us k x n = us n from if_neg (by omega)]
theorem cntN_put {us : Nat → Bool} {k n : Nat} (hk : k < n) (x : Bool) : cntN (upn us k x) n + (us k).toNat = cntN us n + x.toNat := by
  induction n with
  | zero => omega
  | succ n ih =>
    show cntN (upn us k x) n + (upn us k x n).toNat + (us k).toNat = cntN us n + (us n).toNat + x.toNat
    by_cases c : k = n
    · subst c
      rw [cntN_off (Nat.le_refl _), show upn us k x k = x from if_pos rfl]
      omega
    · have := ih (by omega)
      rw [show upn us k x n = us n from if_neg (by omega)]
      omega
theorem cell_lt {w : World} {a : Addr} {v : Value} (h : w.cell? a = some v) : a.block < w.heap.size := by
  refine Classical.byContradiction fun hn => ?_
  have : w.heap[a.block]? = none := Array.getElem?_eq_none (by omega)
  unfold World.cell? at h
  rw [this] at h
  simp at h

theorem map_at {f : Nat → Value} {n k : Nat} (hk : k < n) : ((List.range n).map f).toArray[k]? = some (f k) := by simp [hk]
theorem map_set {f f' : Nat → Value} {n k : Nat} (h : ∀ j, j ≠ k → f' j = f j) : ((List.range n).map f).toArray.setIfInBounds k (f' k) = ((List.range n).map f').toArray := by
  rw [List.setIfInBounds_toArray]
  congr 1
  apply List.ext_getElem?
  intro i
  rw [List.getElem?_set]
  by_cases c : k = i
  · subst c
    by_cases hk : k < n
    · simp [hk]
    · simp [hk]
  · rw [if_neg c, List.getElem?_map, List.getElem?_map]
    by_cases hi : i < n
    · rw [List.getElem?_range hi]; simp [h i (fun e => c e.symm)]
    · simp [hi]
def bcs (us : Nat → Bool) : List Value := (List.range 8).map fun j => .bool (us j)
def ics (n : Nat) (pa : Nat → Int) : List Value := (List.range n).map fun j => .int .i64 (pa j)
theorem bcs_at (us : Nat → Bool) {k : Nat} (hk : k < 8) : (bcs us).toArray[k]? = some (.bool (us k)) := map_at hk
theorem ics_at {n : Nat} (pa : Nat → Int) {k : Nat} (hk : k < n) : (ics n pa).toArray[k]? = some (.int .i64 (pa k)) := map_at hk
theorem bcs_set (us : Nat → Bool) (k : Nat) (x : Bool) : (bcs us).toArray.setIfInBounds k (.bool x) = (bcs (upn us k x)).toArray := by
  have := map_set (f := fun j => .bool (us j)) (f' := fun j => .bool (upn us k x j)) (n := 8) (k := k) (fun j hj => by unfold upn; rw [if_neg hj])
  simp only [upn, if_true] at this
  exact this
theorem ics_set (n : Nat) (pa : Nat → Int) (k : Nat) (x : Int) : (ics n pa).toArray.setIfInBounds k (.int .i64 x) = (ics n (upn pa k x)).toArray := by
  have := map_set (f := fun j => .int .i64 (pa j)) (f' := fun j => .int .i64 (upn pa k x j)) (n := n) (k := k) (fun j hj => by unfold upn; rw [if_neg hj])
  simp only [upn, if_true] at this
  exact this

/-- Younger blocks are written. -/
theorem SideIn.young {w0 : World} {T p B q N F : Nat} {g : VwF} {w w' : World} {X : Nat → Prop} (h : SideIn w0 T p B q N g w) (hk : Kept X w w') (hX : ∀ k, X k → F ≤ k) (hl : T < F ∧ p < F ∧ B < F ∧ q < F ∧ N < F ∧ w0.heap.size ≤ F) : SideIn w0 T p B q N g w' :=
  { h with
    v := h.v.kept hk (fun e => by have := hX _ e; omega) (fun e => by have := hX _ e; omega)
    s := h.s.kept hk (fun e => by have := hX _ e; omega) (fun e => by have := hX _ e; omega)
    t := hk.cell h.t (fun e => by have := hX _ e; simp only at this; omega)
    kept := h.kept.trans hk (fun k h1 h2 => by have := hX _ h2; omega) }
theorem SideIn.lows {w0 : World} {T p B q N : Nat} {g : VwF} {w : World} (h : SideIn w0 T p B q N g w) : T < w.heap.size ∧ p < w.heap.size ∧ B < w.heap.size ∧ q < w.heap.size ∧ N < w.heap.size ∧ w0.heap.size ≤ w.heap.size :=
  ⟨cell_lt h.t, lt_at h.s.cell, h.s.map.lt, lt_at h.v.cell, h.v.map.lt, h.kept.size⟩

end Go.Proofs.YtbhpkjedkccdpaaDoor
