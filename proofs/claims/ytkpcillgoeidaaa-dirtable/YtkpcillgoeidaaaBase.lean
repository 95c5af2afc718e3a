
/- What lies outside some blocks lies as it lay; no conditions. -/
import Derived.Test.YtkpcillgoeidaaaRows
import Derived.WalkKit
import Derived.WalkLawsBesides
import Derived.Below
import Derived.Laws.EntriesVeiled
namespace Go.Proofs.Ytkpcillgoeidaaa
open Go.RowKit

/-- Outside X all that was there is as it was. -/
structure Kept (X : Nat → Prop) (w w' : World) : Prop where
  os : w'.os = w.os
  tape : w'.tape = w.tape
  output : w'.output = w.output
  size : w.heap.size ≤ w'.heap.size
  block : ∀ k, k < w.heap.size → ¬ X k → w'.heap[k]? = w.heap[k]?

theorem Kept.refl (X : Nat → Prop) (w : World) : Kept X w w := ⟨rfl, rfl, rfl, Nat.le_refl _, fun _ _ _ => rfl⟩

theorem Kept.trans {X Y : Nat → Prop} {a b c : World} (h : Kept X a b) (g : Kept Y b c) (hY : ∀ k, k < a.heap.size → Y k → X k) : Kept X a c :=
  ⟨g.os.trans h.os, g.tape.trans h.tape, g.output.trans h.output, Nat.le_trans h.size g.size,
    fun k hk hx => (g.block k (Nat.lt_of_lt_of_le hk h.size) (fun y => hx (hY k hk y))).trans (h.block k hk hx)⟩

theorem Kept.mono {X Y : Nat → Prop} {a b : World} (h : Kept X a b) (hY : ∀ k, k < a.heap.size → X k → Y k) : Kept Y a b :=
  ⟨h.os, h.tape, h.output, h.size, fun k hk hy => h.block k hk (fun x => hy (hY k hk x))⟩

theorem Kept.alloc {X : Nat → Prop} {a b : World} (h : Kept X a b) (o : Obj) : Kept X a (b.alloc o) :=
  ⟨h.os, h.tape, h.output, by have := h.size; simp; omega, fun k hk hx => by
    rw [Below.heap_alloc _ _ _ (Nat.lt_of_lt_of_le hk h.size)]; exact h.block k hk hx⟩

theorem Kept.setCell {X : Nat → Prop} {a b : World} (h : Kept X a b) {p : Addr} (hp : p.block < a.heap.size → X p.block) (v : Value) : Kept X a (b.setCell p v) :=
  ⟨h.os, h.tape, h.output, by simpa [World.setCell] using h.size, fun k hk hx => by
    have hne : k ≠ p.block := by intro e; subst e; exact hx (hp hk)
    rw [Below.heap_setCell _ _ _ _ hne]; exact h.block k hk hx⟩

theorem Kept.drew {X : Nat → Prop} {a b : World} (h : Kept X a b) : Kept X a b.drew := ⟨h.os, h.tape, h.output, h.size, h.block⟩

theorem Kept.grown {X : Nat → Prop} {a b c : World} {row : Option Nat} (h : Kept X a b) (hg : b.grownBy c row) (hr : ∀ k, row = some k → k < a.heap.size → X k) : Kept X a c :=
  ⟨hg.os.trans h.os, hg.tape.trans h.tape, hg.output.trans h.output, Nat.le_trans h.size hg.size,
    fun k hk hx => (hg.block k (Nat.lt_of_lt_of_le hk h.size) (fun e => hx (hr k e.symm hk))).trans (h.block k hk hx)⟩

theorem Kept.cell {X : Nat → Prop} {w w' : World} (h : Kept X w w') {p : Addr} {v : Value} (hc : w.cell? p = some v) (hx : ¬ X p.block) : w'.cell? p = some v :=
  (World.cell?_of_block (h.block p.block (World.block_lt_of_cell? w p hc) hx)).trans hc

theorem Kept.below {X : Nat → Prop} {w w' : World} (h : Kept X w w') (hx : ∀ k, k < w.heap.size → ¬ X k) : Below w.heap.size w w' :=
  ⟨h.os, h.tape, h.output, h.size, fun k hk => h.block k hk (hx k hk)⟩

theorem cell_at {w : World} {n : Nat} {cs : Array Value} {t : TypeId} (h : w.heap[n]? = some (.cells cs t (0, 0))) {i : Nat} {v : Value} (hi : cs[i]? = some v) : w.cell? ⟨n, i, none⟩ = some v := by
  simp [World.cell?, h, hi]

theorem free_at {w : World} {n : Nat} {cs : Array Value} {t : TypeId} (h : w.heap[n]? = some (.cells cs t (0, 0))) (i : Nat) : w.frozen? ⟨n, i, none⟩ = false := by
  simp [World.frozen?, h]

theorem lt_at {w : World} {n : Nat} {o : Obj} (h : w.heap[n]? = some o) : n < w.heap.size := (Array.getElem?_eq_some_iff.1 h).1

theorem set_at {w : World} {n : Nat} {cs : Array Value} {t : TypeId} (h : w.heap[n]? = some (.cells cs t (0, 0))) (i : Nat) (v : Value) :
    (w.setCell ⟨n, i, none⟩ v).heap[n]? = some (.cells (cs.setIfInBounds i v) t (0, 0)) := by
  obtain ⟨hlt, hk⟩ := Array.getElem?_eq_some_iff.1 h
  show (w.heap.modify n _)[n]? = _
  rw [Array.getElem?_eq_getElem (by rw [Array.size_modify]; exact hlt), Array.getElem_modify_self, hk]
  rfl

theorem set_off {w : World} {n : Nat} {p : Addr} (v : Value) (h : n ≠ p.block) : (w.setCell p v).heap[n]? = w.heap[n]? := Below.heap_setCell _ _ _ _ h

theorem alloc_at (w : World) (o : Obj) : (w.alloc o).heap[w.heap.size]? = some o := heap_alloc_new w o

theorem alloc_at' {w : World} (o : Obj) {n : Nat} (hn : w.heap.size = n) : (w.alloc o).heap[n]? = some o := hn ▸ alloc_at w o

theorem alloc_at1 (w : World) (o o' : Obj) : ((w.alloc o).alloc o').heap[w.heap.size + 1]? = some o' := alloc_at' o' (by simp)

theorem alloc_off {w : World} {n : Nat} {x o : Obj} (h : w.heap[n]? = some x) : (w.alloc o).heap[n]? = some x := by
  rw [Below.heap_alloc _ _ _ (lt_at h)]; exact h

theorem Kept.at {X : Nat → Prop} {w w' : World} (h : Kept X w w') {n : Nat} {x : Obj} (hn : w.heap[n]? = some x) (hx : ¬ X n) : w'.heap[n]? = some x :=
  (h.block n (lt_at hn) hx).trans hn

theorem Kept.thru {a b c : World} (h : Kept (fun _ => False) a b) (g : Kept (fun _ => False) b c) : Kept (fun _ => False) a c := h.trans g (fun _ _ e => e)

end Go.Proofs.Ytkpcillgoeidaaa
