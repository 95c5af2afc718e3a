/- A row of tries beside a memory; no conditions but the row's own. -/
import Derived.Test.YtlfcbijgncpieaaRuns
import Derived.Deep.AppendLies
import Derived.OwnWalk
namespace Go.Proofs.Ytlfcbijgncpieaa
open Go.RowKit

/-- What a try is: its lock, its state, its ticket. -/
structure T where
  a : Int
  s : Int
  t : Int

def qd (qs : List Nat) (i : Nat) : Nat := qs.getD i 0
def td (ts : List T) (i : Nat) : T := ts.getD i ⟨0, 0, 0⟩
def ptr (q : Nat) : Value := .pointer (some ⟨q, 0, none⟩)

theorem td_set {ts : List T} {i j : Nat} (hi : i < ts.length) (x : T) : td (ts.set j x) i = if j = i then x else td ts i := by
  simp only [td, List.getD_eq_getElem?_getD, List.getElem?_set]
  by_cases h : j = i
  · subst h; simp [hi]
  · simp [h]

theorem td_self {ts : List T} {j : Nat} (hj : j < ts.length) (x : T) : td (ts.set j x) j = x := by rw [td_set hj, if_pos rfl]
theorem td_other {ts : List T} {i j : Nat} (x : T) (h : j ≠ i) : td (ts.set j x) i = td ts i := by
  simp [td, h]

theorem td_last (ts : List T) (x : T) : td (ts ++ [x]) ts.length = x := by simp [td]
theorem td_left {ts : List T} {i : Nat} (x : T) (hi : i < ts.length) : td (ts ++ [x]) i = td ts i := by simp [td, List.getElem?_append_left hi]
theorem qd_last (qs : List Nat) (x : Nat) : qd (qs ++ [x]) qs.length = x := by simp [qd]
theorem qd_left {qs : List Nat} {i : Nat} (x : Nat) (hi : i < qs.length) : qd (qs ++ [x]) i = qd qs i := by simp [qd, List.getElem?_append_left hi]

/-- The slice v has the tries in blocks qs: what each is. -/
structure TriesIn (lo : Nat) (v : Value) (qs : List Nat) (ts : List T) (w : World) : Prop where
  own : w.ownsRow lo 24 1 v qs.length (qs.map ptr)
  len : ts.length = qs.length
  low : ∀ i, i < qs.length → lo ≤ qd qs i
  each : ∀ i, i < qs.length → TryIn (qd qs i) (td ts i).a (td ts i).s (td ts i).t w
  apart : ∀ i j, i < qs.length → j < qs.length → qd qs i = qd qs j → i = j

theorem own_kept {X : Nat → Prop} {w w' : World} {base : Nat} {e : TypeId} {size : Nat} {v : Value} {n : Nat} {xs : List Value} (h : w.ownsRow base e size v n xs) (hk : Kept X w w') (hx : ∀ k, v.ownBlock = some k → ¬ X k) : w'.ownsRow base e size v n xs := by
  refine ⟨h.1, ?_⟩
  rcases h.2 with hn | ⟨g, cap, cur, rfl, hb, hgg, rest⟩
  · exact .inl hn
  · exact .inr ⟨g, cap, cur, rfl, hb, hk.at hgg (hx g rfl), rest⟩

theorem row_type {w : World} {base : Nat} {e : TypeId} {size : Nat} {v : Value} {n : Nat} {xs : List Value} (h : w.ownsRow base e size v n xs) {k : Nat} (hk : v.ownBlock = some k) : ∃ cur, w.heap[k]? = some (.cells cur e (0, 0)) := by
  rcases h.2 with ⟨rfl, _⟩ | ⟨g, cap, cur, rfl, _, hgb, _⟩
  · simp [Value.ownBlock] at hk
  · have : g = k := by simpa [Value.ownBlock] using hk
    subst this
    exact ⟨cur, hgb⟩

/-- A block of another type is not the row's. -/
theorem row_off {w : World} {base : Nat} {e : TypeId} {size : Nat} {v : Value} {n : Nat} {xs : List Value} (h : w.ownsRow base e size v n xs) {k : Nat} {c : Array Value} {t : TypeId} (hc : w.heap[k]? = some (.cells c t (0, 0))) (ht : t ≠ e) : v.ownBlock ≠ some k := by
  intro hk
  obtain ⟨cur, hr⟩ := row_type h hk
  rw [hc] at hr
  simp at hr
  exact ht hr.2

theorem TriesIn.kept {lo : Nat} {v : Value} {qs : List Nat} {ts : List T} {w w' : World} {X : Nat → Prop} (h : TriesIn lo v qs ts w) (hk : Kept X w w') (hX : ∀ k, X k → k < lo) : TriesIn lo v qs ts w' := by
  refine ⟨own_kept h.own hk (fun k e x => ?_), h.len, h.low, fun i hi => hk.at (h.each i hi) (fun x => ?_), h.apart⟩
  · have := (h.own.lt k e).1; have := hX k x; omega
  · have := h.low i hi; have := hX _ x; omega

/-- One try turns. -/
theorem TriesIn.put {lo : Nat} {v : Value} {qs : List Nat} {ts : List T} {w w' : World} {j : Nat} {a s t : Int} (h : TriesIn lo v qs ts w) (hj : j < qs.length) (hq : TryIn (qd qs j) a s t w') {X : Nat → Prop} (hk : Kept X w w') (hX : ∀ k, X k → k < lo ∨ k = qd qs j) : TriesIn lo v qs (ts.set j ⟨a, s, t⟩) w' := by
  refine ⟨own_kept h.own hk (fun k e x => ?_), by simp [h.len], h.low, fun i hi => ?_, h.apart⟩
  · rcases hX k x with hx | rfl
    · have := (h.own.lt k e).1; omega
    · exact row_off h.own (h.each j hj) (by decide) e
  · by_cases e : j = i
    · subst e
      rw [td_self (by rw [h.len]; exact hj)]
      exact hq
    · rw [td_other _ e]
      refine hk.at (h.each i hi) (fun x => ?_)
      rcases hX _ x with hx | hx
      · have := h.low i hi; omega
      · exact e (h.apart i j hi hj hx).symm

/-- One try more. -/
theorem TriesIn.push {lo : Nat} {v : Value} {qs : List Nat} {ts : List T} {w w1 : World} {q g cap : Nat} {a s t : Int} {tmp : Obj} (h : TriesIn lo v qs ts w) (hq : TryIn q a s t w) (hl : lo ≤ q) (hn : ∀ i, i < qs.length → qd qs i ≠ q)
    (hown : w1.ownsRow lo 24 1 (.slice (some ⟨g, 0, none⟩) (qs.length + 1) cap) (qs.length + 1) (qs.map ptr ++ [ptr q])) (hg : (w.alloc tmp).grownBy w1 v.ownBlock) :
    TriesIn lo (.slice (some ⟨g, 0, none⟩) (qs.length + 1) cap) (qs ++ [q]) (ts ++ [⟨a, s, t⟩]) w1 ∧ Kept (fun k => lo ≤ k) w w1 := by
  have hk : Kept (fun k => v.ownBlock = some k) w w1 := Kept.grown ((Kept.refl _ w).alloc tmp) hg (fun k e _ => e)
  have hcase : ∀ i, i < (qs ++ [q]).length → i < qs.length ∨ i = qs.length := fun i hi => by simp at hi; omega
  refine ⟨⟨by simpa using hown, by simp [h.len], fun i hi => ?_, fun i hi => ?_, fun i j hi hj e => ?_⟩, hk.mono (fun k _ e => (h.own.lt k e).1)⟩
  · rcases hcase i hi with h1 | rfl
    · rw [qd_left _ h1]; exact h.low i h1
    · rw [qd_last]; exact hl
  · rcases hcase i hi with h1 | rfl
    · rw [qd_left _ h1, td_left _ (by rw [h.len]; exact h1)]
      exact hk.at (h.each i h1) (fun e => row_off h.own (h.each i h1) (by decide) e)
    · rw [qd_last, ← h.len, td_last]
      exact hk.at hq (fun e => row_off h.own hq (by decide) e)
  · rcases hcase i hi with h1 | rfl <;> rcases hcase j hj with h2 | rfl
    · rw [qd_left _ h1, qd_left _ h2] at e; exact h.apart i j h1 h2 e
    · rw [qd_left _ h1, qd_last] at e; exact absurd e (hn i h1)
    · rw [qd_last, qd_left _ h2] at e; exact absurd e.symm (hn j h2)
    · rfl

theorem TriesIn.nil (lo : Nat) (w : World) : TriesIn lo (.slice none 0 0) [] [] w :=
  ⟨World.ownsRow_nil _ _ _ _, rfl, fun i hi => by simp at hi, fun i hi => by simp at hi, fun i j hi => by simp at hi⟩

/-- What the slice looks like. -/
theorem TriesIn.form {lo : Nat} {v : Value} {qs : List Nat} {ts : List T} {w : World} (h : TriesIn lo v qs ts w) (hn : 0 < qs.length) :
    ∃ g cap, v = .slice (some ⟨g, 0, none⟩) qs.length cap ∧ lo ≤ g ∧ g < w.heap.size := h.own.form hn

theorem TriesIn.cell {lo g n cap : Nat} {qs : List Nat} {ts : List T} {w : World} (h : TriesIn lo (.slice (some ⟨g, 0, none⟩) n cap) qs ts w) {i : Nat} (hi : i < qs.length) : w.cell? ⟨g, i, none⟩ = some (.pointer (some ⟨qd qs i, 0, none⟩)) := by
  have hc := h.own.cells (g := g) rfl i (ptr (qd qs i)) (by simp [qd, hi])
  rw [Addr.add_lit, Nat.zero_add] at hc
  exact hc

theorem TriesIn.size {lo g n cap : Nat} {qs : List Nat} {ts : List T} {w : World} (h : TriesIn lo (.slice (some ⟨g, 0, none⟩) n cap) qs ts w) : n = qs.length := by
  rcases h.own.2 with ⟨e, _⟩ | ⟨g', c', cur, e, _⟩
  · cases e
  · cases e; rfl

/-- A memory with one lock, and tries of it. -/
structure Yard (B n t : Nat) (c : Int) (v : Value) (qs : List Nat) (ts : List T) (w0 w : World) : Prop where
  mem : LockIn (B + 1) B n t c w
  tries : TriesIn (B + 2) v qs ts w
  kept : Kept (fun _ => False) w0 w
  base : w0.heap.size = B
  zero : ∀ i, i < qs.length → (td ts i).a = 0

theorem Yard.still {B n t : Nat} {c : Int} {v : Value} {qs : List Nat} {ts : List T} {w0 w w' : World} (h : Yard B n t c v qs ts w0 w) (hk : Kept (fun _ => False) w w') : Yard B n t c v qs ts w0 w' :=
  ⟨h.mem.kept hk (by simp) (by simp), h.tries.kept hk (fun _ x => x.elim), h.kept.trans hk (fun _ _ h => h), h.base, h.zero⟩

theorem Yard.step {B n t n' t' : Nat} {c c' : Int} {v : Value} {qs : List Nat} {ts : List T} {w0 w w' : World} {j : Nat} {s x : Int} (h : Yard B n t c v qs ts w0 w) (hj : j < qs.length) (hm : LockIn (B + 1) B n' t' c' w') (hq : TryIn (qd qs j) 0 s x w') (hk : Kept (fun k => k = B + 1 ∨ k = B ∨ k = qd qs j) w w') : Yard B n' t' c' v qs (ts.set j ⟨0, s, x⟩) w0 w' := by
  have hl := h.tries.low j hj
  refine ⟨hm, h.tries.put hj hq hk (fun k e => by omega), h.kept.trans hk (fun k hk' e => by have := h.base; omega), h.base, fun i hi => ?_⟩
  by_cases e : j = i
  · subst e; rw [td_self (by rw [h.tries.len]; exact hj)]
  · rw [td_other _ e]; exact h.zero i hi

theorem Yard.try {B n t : Nat} {c : Int} {v : Value} {qs : List Nat} {ts : List T} {w0 w : World} (h : Yard B n t c v qs ts w0 w) {j : Nat} (hj : j < qs.length) : TryIn (qd qs j) 0 (td ts j).s (td ts j).t w := by
  have := h.tries.each j hj
  rwa [h.zero j hj] at this

theorem Yard.low {B n t : Nat} {c : Int} {v : Value} {qs : List Nat} {ts : List T} {w0 w : World} (h : Yard B n t c v qs ts w0 w) {j : Nat} (hj : j < qs.length) : B + 2 ≤ qd qs j := h.tries.low j hj

/-- A try is made, and put behind the row. -/
theorem Yard.push {B n t : Nat} {c : Int} {v : Value} {qs : List Nat} {ts : List T} {w0 w w1 : World} {q g cap : Nat} {s x : Int} {tmp : Obj} (h : Yard B n t c v qs ts w0 w) (hq : TryIn q 0 s x w) (hl : B + 2 ≤ q) (hn : ∀ i, i < qs.length → qd qs i ≠ q)
    (hown : w1.ownsRow (B + 2) 24 1 (.slice (some ⟨g, 0, none⟩) (qs.length + 1) cap) (qs.length + 1) (qs.map ptr ++ [ptr q])) (hg : (w.alloc tmp).grownBy w1 v.ownBlock) :
    Yard B n t c (.slice (some ⟨g, 0, none⟩) (qs.length + 1) cap) (qs ++ [q]) (ts ++ [⟨0, s, x⟩]) w0 w1 := by
  obtain ⟨h1, hk⟩ := h.tries.push hq hl hn hown hg
  refine ⟨h.mem.kept hk (by omega) (by omega), h1, h.kept.trans hk (fun k hk' e => by have := h.base; omega), h.base, fun i hi => ?_⟩
  simp at hi
  by_cases e : i < qs.length
  · rw [td_left _ (by rw [h.tries.len]; exact e)]; exact h.zero i e
  · have : i = ts.length := by rw [h.tries.len]; omega
    subst this
    rw [td_last]

theorem info_try : (Try.prog.info? 24).map (fun i => (i.zero, i.size, i.bytes)) = some (some (.pointer none), 1, 8) := by kernel_rfl
end Go.Proofs.Ytlfcbijgncpieaa
