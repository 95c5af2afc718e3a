
/- Tables of a statement's own beside one view; no conditions. -/
import Derived.Test.YtiklclmpealllaaPrM
import Derived.Test.YtiklclmpealllaaPrN
namespace Go.Proofs.Ytiklclmpealllaa
open Go.RowKit
set_option maxRecDepth 100000
set_option linter.unusedSimpArgs false

theorem cell_lt {w : World} {a : Addr} {v : Value} (h : w.cell? a = some v) : a.block < w.heap.size := by
  refine Classical.byContradiction fun hn => ?_
  have : w.heap[a.block]? = none := Array.getElem?_eq_none (by omega)
  unfold World.cell? at h
  rw [this] at h
  simp at h

theorem map_at {f : Nat → Value} {n k : Nat} (hk : k < n) : ((List.range n).map f).toArray[k]? = some (f k) := by simp [hk]
theorem map_set {f f' : Nat → Value} {n k : Nat} (h : ∀ j, j ≠ k → f' j = f j) : ((List.range n).map f).toArray.setIfInBounds k (f' k) = ((List.range n).map f').toArray := by
  rw [List.setIfInBounds_toArray]
  congr 1
  apply List.ext_getElem?
  intro i
  rw [List.getElem?_set]
  by_cases c : k = i
  · subst c
    by_cases hk : k < n
    · simp [hk]
    · simp [hk]
  · rw [if_neg c, List.getElem?_map, List.getElem?_map]
    by_cases hi : i < n
    · rw [List.getElem?_range hi]; simp [h i (fun e => c e.symm)]
    · simp [hi]
def bcs (us : Nat → Bool) : List Value := (List.range 8).map fun j => .bool (us j)
def ics (n : Nat) (pa : Nat → Int) : List Value := (List.range n).map fun j => .int .i64 (pa j)
theorem bcs_at (us : Nat → Bool) {k : Nat} (hk : k < 8) : (bcs us).toArray[k]? = some (.bool (us k)) := map_at hk
theorem ics_at {n : Nat} (pa : Nat → Int) {k : Nat} (hk : k < n) : (ics n pa).toArray[k]? = some (.int .i64 (pa k)) := map_at hk
theorem bcs_set (us : Nat → Bool) (k : Nat) (x : Bool) : (bcs us).toArray.setIfInBounds k (.bool x) = (bcs (upn us k x)).toArray := by
  have := map_set (f := fun j => .bool (us j)) (f' := fun j => .bool (upn us k x j)) (n := 8) (k := k) (fun j hj => by unfold upn; rw [if_neg hj])
  simp only [upn, if_true] at this
  exact this
theorem ics_set (n : Nat) (pa : Nat → Int) (k : Nat) (x : Int) : (ics n pa).toArray.setIfInBounds k (.int .i64 x) = (ics n (upn pa k x)).toArray := by
  have := map_set (f := fun j => .int .i64 (pa j)) (f' := fun j => .int .i64 (upn pa k x j)) (n := n) (k := k) (fun j hj => by unfold upn; rw [if_neg hj])
  simp only [upn, if_true] at this
  exact this

/-- Younger blocks are written. -/
theorem SideIn.young {w0 : World} {T p B q N F : Nat} {g : VwF} {w w' : World} {X : Nat → Prop} (h : SideIn w0 T p B q N g w) (hk : Kept X w w') (hX : ∀ k, X k → F ≤ k) (hl : T < F ∧ p < F ∧ B < F ∧ q < F ∧ N < F ∧ w0.heap.size ≤ F) : SideIn w0 T p B q N g w' :=
  { h with
    v := h.v.kept hk (fun e => by have := hX _ e; omega) (fun e => by have := hX _ e; omega)
    s := h.s.kept hk (fun e => by have := hX _ e; omega) (fun e => by have := hX _ e; omega)
    t := hk.cell h.t (fun e => by have := hX _ e; simp only at this; omega)
    kept := h.kept.trans hk (fun k h1 h2 => by have := hX _ h2; omega) }
theorem SideIn.lows {w0 : World} {T p B q N : Nat} {g : VwF} {w : World} (h : SideIn w0 T p B q N g w) : T < w.heap.size ∧ p < w.heap.size ∧ B < w.heap.size ∧ q < w.heap.size ∧ N < w.heap.size ∧ w0.heap.size ≤ w.heap.size :=
  ⟨cell_lt h.t, lt_at h.s.cell, h.s.map.lt, lt_at h.v.cell, h.v.map.lt, h.kept.size⟩

structure PTab (w0 : World) (T p B q N F : Nat) (g : VwF) (us : Nat → Bool) (pa pi : Nat → Int) (w : World) : Prop where
  side : SideIn w0 T p B q N g w
  u : w.heap[F]? = some (.cells (bcs us).toArray 39 (0, 0))
  a : w.heap[F + 1]? = some (.cells (ics 8 pa).toArray 40 (0, 0))
  i : w.heap[F + 1 + 1]? = some (.cells (ics 8 pi).toArray 40 (0, 0))
  low : T < F ∧ p < F ∧ B < F ∧ q < F ∧ N < F ∧ w0.heap.size ≤ F

section
variable {w0 : World} {T p B q N F : Nat} {g g' : VwF} {us : Nat → Bool} {pa pi : Nat → Int} {w w' : World}
theorem PTab.still (h : PTab w0 T p B q N F g us pa pi w) (hk : Kept (fun _ => False) w w') : PTab w0 T p B q N F g us pa pi w' :=
  { h with side := h.side.still hk, u := hk.at h.u (fun x => x), a := hk.at h.a (fun x => x), i := hk.at h.i (fun x => x) }
theorem PTab.view (h : PTab w0 T p B q N F g us pa pi w) (hs : SideIn w0 T p B q N g' w') (hk : Kept (fun n => n = N) w w') : PTab w0 T p B q N F g' us pa pi w' := by
  have := h.low
  exact { h with side := hs, u := hk.at h.u (by show ¬ F = N; omega), a := hk.at h.a (by show ¬ F + 1 = N; omega), i := hk.at h.i (by show ¬ F + 1 + 1 = N; omega) }
theorem PTab.cu (h : PTab w0 T p B q N F g us pa pi w) {k : Nat} (hk : k < 8) : w.cell? ⟨F, k, none⟩ = some (.bool (us k)) := cell_at h.u (bcs_at us hk)
theorem PTab.ca (h : PTab w0 T p B q N F g us pa pi w) {k : Nat} (hk : k < 8) : w.cell? ⟨F + 1, k, none⟩ = some (.int .i64 (pa k)) := cell_at h.a (ics_at pa hk)
theorem PTab.ci (h : PTab w0 T p B q N F g us pa pi w) {k : Nat} (hk : k < 8) : w.cell? ⟨F + 1 + 1, k, none⟩ = some (.int .i64 (pi k)) := cell_at h.i (ics_at pi hk)
/-- The cells while the view alone is written. -/
theorem PTab.cuv (h : PTab w0 T p B q N F g us pa pi w) (hk : Kept (fun n => n = N) w w') {k : Nat} (hk8 : k < 8) : w'.cell? ⟨F, k, none⟩ = some (.bool (us k)) :=
  hk.cell (h.cu hk8) (by have := h.low; show ¬ F = N; omega)
theorem PTab.set1 (h : PTab w0 T p B q N F g us pa pi w) (k : Nat) (x : Bool) : PTab w0 T p B q N F g (upn us k x) pa pi (w.setCell ⟨F, k, none⟩ (.bool x)) ∧ Kept (fun n => n = F) w (w.setCell ⟨F, k, none⟩ (.bool x)) := by
  have hk : Kept (fun n => n = F) w (w.setCell ⟨F, k, none⟩ (.bool x)) := by refine Kept.setCell (Kept.refl _ _) ?_ _; intro _; rfl
  refine ⟨{ h with side := h.side.young hk (fun k e => by omega) h.low, u := ?_, a := hk.at h.a (by show ¬ F + 1 = F; omega), i := hk.at h.i (by show ¬ F + 1 + 1 = F; omega) }, hk⟩
  rw [set_at h.u, bcs_set]
theorem PTab.set2 (h : PTab w0 T p B q N F g us pa pi w) (k : Nat) (x : Int) : PTab w0 T p B q N F g us (upn pa k x) pi (w.setCell ⟨F + 1, k, none⟩ (.int .i64 x)) := by
  have hk : Kept (fun n => n = F + 1) w (w.setCell ⟨F + 1, k, none⟩ (.int .i64 x)) := by refine Kept.setCell (Kept.refl _ _) ?_ _; intro _; rfl
  refine { h with side := h.side.young hk (fun k e => by omega) h.low, u := hk.at h.u (by show ¬ F = F + 1; omega), a := ?_, i := hk.at h.i (by show ¬ F + 1 + 1 = F + 1; omega) }
  rw [set_at h.a, ics_set]
theorem PTab.set3 (h : PTab w0 T p B q N F g us pa pi w) (k : Nat) (x : Int) : PTab w0 T p B q N F g us pa (upn pi k x) (w.setCell ⟨F + 1 + 1, k, none⟩ (.int .i64 x)) := by
  have hk : Kept (fun n => n = F + 1 + 1) w (w.setCell ⟨F + 1 + 1, k, none⟩ (.int .i64 x)) := by refine Kept.setCell (Kept.refl _ _) ?_ _; intro _; rfl
  refine { h with side := h.side.young hk (fun k e => by omega) h.low, u := hk.at h.u (by show ¬ F = F + 1 + 1; omega), a := hk.at h.a (by show ¬ F + 1 = F + 1 + 1; omega), i := ?_ }
  rw [set_at h.i, ics_set]
/-- What lies in younger blocks alone is another's. -/
theorem PTab.own (h : PTab w0 T p B q N F g us pa pi w) {X : Nat → Prop} (hk : Kept X w w') (hX : ∀ k, X k → F + 3 ≤ k) : PTab w0 T p B q N F g us pa pi w' :=
  { h with
    side := h.side.young hk (fun k e => by have := hX k e; omega) h.low
    u := hk.at h.u (fun e => by have := hX _ e; omega)
    a := hk.at h.a (fun e => by have := hX _ e; omega)
    i := hk.at h.i (fun e => by have := hX _ e; omega) }
end

/-- Two processes' descriptors, in one block of the statement's own. -/
structure FTab (w0 : World) (T p B q N F : Nat) (g : VwF) (o : Nat → Int) (w : World) : Prop where
  side : SideIn w0 T p B q N g w
  o : w.heap[F]? = some (.cells (ics 12 o).toArray 47 (0, 0))
  low : T < F ∧ p < F ∧ B < F ∧ q < F ∧ N < F ∧ w0.heap.size ≤ F

section
variable {w0 : World} {T p B q N F : Nat} {g g' : VwF} {o : Nat → Int} {w w' : World}
theorem FTab.still (h : FTab w0 T p B q N F g o w) (hk : Kept (fun _ => False) w w') : FTab w0 T p B q N F g o w' :=
  { h with side := h.side.still hk, o := hk.at h.o (fun x => x) }
theorem FTab.view (h : FTab w0 T p B q N F g o w) (hs : SideIn w0 T p B q N g' w') (hk : Kept (fun n => n = N) w w') : FTab w0 T p B q N F g' o w' := by
  have := h.low
  exact { h with side := hs, o := hk.at h.o (by show ¬ F = N; omega) }
theorem FTab.co (h : FTab w0 T p B q N F g o w) {k : Nat} (hk : k < 12) : w.cell? ⟨F, k, none⟩ = some (.int .i64 (o k)) := cell_at h.o (ics_at o hk)
theorem FTab.set (h : FTab w0 T p B q N F g o w) (k : Nat) (x : Int) : FTab w0 T p B q N F g (upn o k x) (w.setCell ⟨F, k, none⟩ (.int .i64 x)) := by
  have hk : Kept (fun n => n = F) w (w.setCell ⟨F, k, none⟩ (.int .i64 x)) := by refine Kept.setCell (Kept.refl _ _) ?_ _; intro _; rfl
  refine { h with side := h.side.young hk (fun k e => by omega) h.low, o := ?_ }
  rw [set_at h.o, ics_set]
end
end Go.Proofs.Ytiklclmpealllaa
