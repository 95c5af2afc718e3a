/- What the statement on Sort keeps beside it; a list turned round; no conditions. -/
import Derived.Test.YtheflmomomknbaaRoom
import Derived.Test.YtheflmomomknbaaWithin
namespace Go.Proofs.Ytheflmomomknbaa
open Go.RowKit

/-- The list itself, the sorted one, the one with marks behind it, and what was there before. -/
structure Desk (E : Nat) (vo vs : Value) (L : Ks) (w0 w : World) : Prop where
  own : SrcK vo L w
  s : SrcK vs (sortOf L) w
  full : w.heap[E]? = some (.cells (kcells (fill L 80)).toArray 23 (0, 0))
  kept : Kept (fun _ => False) w0 w

theorem Desk.still {E : Nat} {vo vs : Value} {L : Ks} {w0 w w' : World} (h : Desk E vo vs L w0 w) (hk : Kept (fun _ => False) w w') : Desk E vo vs L w0 w' :=
  ⟨h.own.kept hk, h.s.kept hk, hk.at h.full (fun x => x), h.kept.thru hk⟩

theorem arg_src (ao : Option Addr) (len cap lb off N : Nat) (K : Nat → Int × Int) (hao : 0 < len → ao = some ⟨lb, off, none⟩) (hno : ao = none → cap = 0) (hN : N ≤ len) (w : World)
    (hc : ∀ i, i < len → w.cell? ⟨lb, off + i * 2, none⟩ = some (.int .i64 (K i).1) ∧ w.cell? ⟨lb, off + i * 2 + 1, none⟩ = some (.int .i64 (K i).2)) : SrcK (.slice ao N cap) ((List.range N).map K) w := by
  refine ⟨ao, lb, off, cap, by simp, hno, fun h => hao (by simp at h; omega), fun j hj => ?_⟩
  have hj' : j < N := by simpa using hj
  have e : kd ((List.range N).map K) j = K j := by simp [kd, hj']
  rw [e]
  exact hc j (by omega)

theorem OwnK.put {w0 w : World} {g c i : Nat} {l l' : Ks} {n : Nat} (h : OwnK w0 (.slice (some ⟨g, 0, none⟩) n c) l w) (x y : Int) (hn : l.length = n) (e : l' = l.set i (x, y)) :
    OwnK w0 (.slice (some ⟨g, 0, none⟩) n c) l' ((w.setCell ⟨g, i * 2, none⟩ (.int .i64 x)).setCell ⟨g, i * 2 + 1, none⟩ (.int .i64 y)) := by
  subst e hn
  have hb := (h.own.lt g rfl).1
  refine ⟨Kept.setCell (Kept.setCell h.kept ?_ _) ?_ _, ?_⟩
  · intro hx; exact absurd hx (by simp; omega)
  · intro hx; exact absurd hx (by simp; omega)
  · have h2 := ((h.own.stored (i * 2) (.int .i64 x)).1.stored (i * 2 + 1) (.int .i64 y)).1
    have h3 := kcells_set l i (x, y)
    simp only at h3
    rw [h3] at h2
    rw [List.length_set]
    exact h2

/-- The first i and the last i changed places. -/
def rv (l : Ks) (i : Nat) : Ks := (List.range l.length).map fun j => if j < i ∨ l.length - i ≤ j then kd l (l.length - 1 - j) else kd l j

theorem rv_len (l : Ks) (i : Nat) : (rv l i).length = l.length := by simp [rv]

theorem rv_at (l : Ks) (i : Nat) {j : Nat} (h : j < l.length) : kd (rv l i) j = if j < i ∨ l.length - i ≤ j then kd l (l.length - 1 - j) else kd l j := by
  simp [rv, kd, h]

theorem ks_ext {a b : Ks} (h : a.length = b.length) (g : ∀ j, j < a.length → kd a j = kd b j) : a = b := by
  apply List.ext_getElem h
  intro j h1 h2
  rw [← kd_get h1, ← kd_get h2]
  exact g j h1

theorem kd_set {l : Ks} {i j : Nat} (h : i < l.length) (x : Int × Int) : kd (l.set i x) j = if i = j then x else kd l j := by
  by_cases e : i = j
  · subst e; simp [kd, h]
  · simp [kd, e]

theorem rv_zero (l : Ks) : rv l 0 = l := by
  refine ks_ext (rv_len l 0) fun j hj => ?_
  rw [rv_len] at hj
  rw [rv_at l 0 hj, if_neg (by omega)]

theorem rv_next (l : Ks) {i : Nat} (h : i < l.length - 1 - i) : ((rv l i).set i (kd (rv l i) (l.length - 1 - i))).set (l.length - 1 - i) (kd (rv l i) i) = rv l (i + 1) := by
  refine ks_ext (by simp [rv_len]) fun j hj => ?_
  rw [List.length_set, List.length_set, rv_len] at hj
  rw [kd_set (by rw [List.length_set, rv_len]; omega), kd_set (by rw [rv_len]; omega), rv_at l (i + 1) hj]
  by_cases e1 : l.length - 1 - i = j
  · rw [if_pos e1, if_pos (by omega), rv_at l i (by omega), if_neg (by omega)]
    congr 1
    omega
  · rw [if_neg e1]
    by_cases e2 : i = j
    · rw [if_pos e2, if_pos (by omega), rv_at l i (by omega), if_neg (by omega)]
      subst e2
      rfl
    · rw [if_neg e2, rv_at l i hj]
      by_cases e3 : j < i ∨ l.length - i ≤ j
      · rw [if_pos e3, if_pos (by omega)]
      · rw [if_neg e3, if_neg (by omega)]

theorem rv_end (l : Ks) {i : Nat} (h : ¬ i < l.length - 1 - i) : rv l i = l.reverse := by
  refine ks_ext (by simp [rv_len]) fun j hj => ?_
  rw [rv_len] at hj
  have hr : kd l.reverse j = kd l (l.length - 1 - j) := by
    rw [kd_get (by simpa using hj), kd_get (by omega), List.getElem_reverse]
  rw [rv_at l i hj, hr]
  by_cases e : j < i ∨ l.length - i ≤ j
  · rw [if_pos e]
  · rw [if_neg e]
    congr 1
    omega


theorem SrcK.at2 {b o n c i : Nat} {l : Ks} {w : World} (h : SrcK (.slice (some ⟨b, o, Option.none⟩) n c) l w) (hi : i < l.length) : w.cell? ⟨b, o + i * 2, Option.none⟩ = some (.int .i64 (kd l i).1) ∧ w.cell? ⟨b, o + i * 2 + 1, Option.none⟩ = some (.int .i64 (kd l i).2) := by
  obtain ⟨ao, b', o', c', e, _, h1, h2⟩ := h
  cases e
  have := h1 (by omega)
  cases this
  exact h2 i hi

theorem own_shape {w0 w : World} {v : Value} {l : Ks} {N : Nat} (h : OwnK w0 v ([] ++ l) w) (hN : l.length = N) : ∃ bo bg bc, v = .slice bo N bc ∧ Hid (0 < N → bo = some ⟨bg, 0, none⟩) := by
  have ho : OwnK w0 v l w := by simpa using h
  rcases ho.form with ⟨rfl, rfl⟩ | ⟨g, c, rfl, hgc⟩
  · obtain rfl : N = 0 := by simpa using hN.symm
    exact ⟨none, 0, 0, rfl, (fun h => by omega)⟩
  · rw [hN]
    exact ⟨_, g, c, rfl, (fun _ => rfl)⟩

theorem SrcK.part {b o n c : Nat} {l : Ks} {w : World} (h : SrcK (.slice (some ⟨b, o, Option.none⟩) n c) l w) (k m c' o' : Nat) (hm : k + m ≤ l.length) (ho : o' = o + k * 2) : SrcK (.slice (some ⟨b, o', Option.none⟩) m c') ((l.drop k).take m) w := by
  subst ho
  have hl : ((l.drop k).take m).length = m := by simp; omega
  refine ⟨_, b, o + k * 2, c', by rw [hl], (fun h => by cases h), fun _ => rfl, fun j hj => ?_⟩
  rw [hl] at hj
  have e : kd ((l.drop k).take m) j = kd l (k + j) := by simp [kd, List.getD, hj, List.getElem?_drop]
  rw [e]
  have := h.at2 (i := k + j) (by omega)
  rw [show o + k * 2 + j * 2 = o + (k + j) * 2 by omega]
  exact this

end Go.Proofs.Ytheflmomomknbaa
