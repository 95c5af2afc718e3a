
/- One view as a statement holds it, over a store that has something; New, Get, Put; no conditions but lengths. -/
import Derived.Test.YtigfgnaakoicjaaSmA
namespace Go.Proofs.Ytigfgnaakoicjaa
open Go.RowKit
set_option maxRecDepth 100000
set_option linter.unusedSimpArgs false

theorem cell_lt {w : World} {a : Addr} {v : Value} (h : w.cell? a = some v) : a.block < w.heap.size := by
  refine Classical.byContradiction fun hn => ?_
  have : w.heap[a.block]? = none := Array.getElem?_eq_none (by omega)
  unfold World.cell? at h
  rw [this] at h
  simp at h

/-- As SideIn, whatever the store has; b bounds the objects' texts. -/
structure SideG (f : StF) (w0 : World) (T p B q N : Nat) (g : VwF) (w : World) : Prop where
  v : ViewIn q N p g w
  s : StoreIn p B f w
  t : w.cell? ⟨T, 1, none⟩ = some (.pointer (some ⟨q, 0, none⟩))
  ne : N ≠ B
  tn : T ≠ N
  kept : Kept (fun _ => False) w0 w
  nN : w0.heap.size ≤ N
  sm : Small f g

section
variable {f : StF} {w0 : World} {T p B q N F : Nat} {g g' : VwF} {w w' : World}
theorem SideG.still (h : SideG f w0 T p B q N g w) (hk : Kept (fun _ => False) w w') : SideG f w0 T p B q N g w' := { h with v := h.v.still hk, s := h.s.still hk, t := hk.cell h.t (fun x => x), kept := h.kept.thru hk }
theorem SideG.put (h : SideG f w0 T p B q N g w) (hv : ViewIn q N p g' w') (hm : Small f g') (hk : Kept (fun n => n = N) w w') : SideG f w0 T p B q N g' w' :=
  { h with v := hv, s := h.s.kept hk (fun e => h.v.map.off h.s.cell e) (fun e => h.ne e.symm), t := hk.cell h.t h.tn, kept := h.kept.trans hk (fun k h1 h2 => by have := h.nN; omega), sm := hm }
theorem SideG.young {X : Nat → Prop} (h : SideG f w0 T p B q N g w) (hk : Kept X w w') (hX : ∀ k, X k → F ≤ k) (hl : T < F ∧ p < F ∧ B < F ∧ q < F ∧ N < F ∧ w0.heap.size ≤ F) : SideG f w0 T p B q N g w' :=
  { h with
    v := h.v.kept hk (fun e => by have := hX _ e; omega) (fun e => by have := hX _ e; omega)
    s := h.s.kept hk (fun e => by have := hX _ e; omega) (fun e => by have := hX _ e; omega)
    t := hk.cell h.t (fun e => by have := hX _ e; simp only at this; omega)
    kept := h.kept.trans hk (fun k h1 h2 => by have := hX _ h2; omega) }
theorem SideG.lows (h : SideG f w0 T p B q N g w) : T < w.heap.size ∧ p < w.heap.size ∧ B < w.heap.size ∧ q < w.heap.size ∧ N < w.heap.size ∧ w0.heap.size ≤ w.heap.size :=
  ⟨cell_lt h.t, lt_at h.s.cell, h.s.map.lt, lt_at h.v.cell, h.v.map.lt, h.kept.size⟩
/-- Seen from an older world. -/
theorem SideG.older {w1 : World} (h : SideG f w0 T p B q N g w) (hk : Kept (fun _ => False) w1 w0) : SideG f w1 T p B q N g w := { h with kept := hk.thru h.kept, nN := by have := hk.size; have := h.nN; omega }
theorem KeepIn.sideG {rp rB rq R W : Nat} {f2 : StF} {g2 : VwF} (h : KeepIn w0 T p B q N rp rB rq R W f f2 g g2 w) (hm : Small f g) : SideG f w0 T p B q N g w :=
  ⟨h.game.v, h.game.s, h.cells.2.1, h.nB, h.game.v.map.off h.cell, h.game.kept, h.game.nN, hm⟩
theorem sg_vget (h : SideG f w0 T p B q N g w) (x y : Int) : Calls Try.prog 12 #[.pointer (some ⟨q, 0, none⟩), .agg #[.int .i64 x, .int .i64 y]] w
    fun e w' => e = .returned (vv (vgetF f g (x, y))) ∧ SideG f w0 T p B q N (vgetT g (x, y)) w' ∧ Kept (fun n => n = N) w w' := by
  refine (vget_w q N p B f g x y w h.v h.s h.ne).mono ?_
  rintro e w1 ⟨rfl, hv, hk⟩
  exact ⟨rfl, h.put hv (h.sm.get _) hk, hk⟩
theorem sg_vput (h : SideG f w0 T p B q N g w) (x y : Int) (v : V) (hs : v.s.size ≤ 200) : Calls Try.prog 15 #[.pointer (some ⟨q, 0, none⟩), .agg #[.int .i64 x, .int .i64 y], vv v] w
    fun e w' => e = .returned (.tuple #[]) ∧ SideG f w0 T p B q N (vputT g (x, y) v) w' ∧ Kept (fun n => n = N) w w' := by
  refine (vput_w q N p g x y v w h.v).mono ?_
  rintro e w1 ⟨rfl, hv, hk⟩
  exact ⟨rfl, h.put hv (h.sm.put _ hs) hk, hk⟩
end

/-- An operation that runs to its end, said by its run. -/
theorem list_one {ops : Array Oper} {rest : List Oper} {o : Oper} {a : Act} {w w' : World} {Q : Exit → Act → World → Prop} {v : Value} {r : Option Tmp} (hg : o.guard = none) (hr : o.dst = r)
    (he : (execOp a.eval o).run Try.prog w = .ok (.value v) w') (h : wpList Try.prog ops Q rest (a.put r v) w') : wpList Try.prog ops Q (o :: rest) a w := by
  subst hr
  refine wpList_plain hg fun K hK => ?_
  unfold Oper.wp
  rw [he]
  exact hK _ _ h
end Go.Proofs.Ytigfgnaakoicjaa
