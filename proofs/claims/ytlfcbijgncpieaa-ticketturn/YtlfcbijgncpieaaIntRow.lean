/- Rows of numbers of the call's own, appended to; no conditions but the rows' own. -/
import Derived.Test.YtlfcbijgncpieaaWaitW
import Derived.Deep.RegionLaw
namespace Go.Proofs.Ytlfcbijgncpieaa
open Go.RowKit

def ints (l : List Int) : List Value := l.map (Value.int .i64)

theorem ints_app (a b : List Int) : ints (a ++ b) = ints a ++ ints b := by simp [ints]
theorem ints_len (a : List Int) : (ints a).length = a.length := by simp [ints]

/-- v has the numbers xs, in a block that is younger than the world w0. -/
structure OwnI (w0 : World) (v : Value) (xs : List Int) (w : World) : Prop where
  kept : Kept (fun _ => False) w0 w
  own : w.ownsRow w0.heap.size 3 1 v xs.length (ints xs)

/-- What x has. -/
def SrcI (x : Value) (xs : List Int) (w : World) : Prop :=
  (∃ b o c, x = .slice (some ⟨b, o, none⟩) xs.length c ∧ b < w.heap.size ∧ ∀ j u, xs[j]? = some u → w.cell? ⟨b, o + j, none⟩ = some (.int .i64 u)) ∨ (x = .slice none 0 0 ∧ xs = [])

theorem SrcI.kept {x : Value} {xs : List Int} {w w' : World} {X : Nat → Prop} (h : SrcI x xs w) (hk : Kept X w w') (hX : ∀ k, x.ownBlock = some k → ¬ X k) : SrcI x xs w' := by
  rcases h with ⟨b, o, c, rfl, hb, hc⟩ | h
  · exact .inl ⟨b, o, c, rfl, Nat.lt_of_lt_of_le hb hk.size, fun j u hu => hk.cell (hc j u hu) (hX b rfl)⟩
  · exact .inr h

theorem run_app (ty : TypeId) (w0 : World) (v : Value) (xs : List Int) (w : World) (h : OwnI w0 v xs w) (x : Value) (news : List Int) (hx : SrcI x news w) (hlen : xs.length + news.length ≤ 1000) :
    ∃ v' w', (Builtin.append_ #[33, 33] ty #[v, x]).run Try.prog w = .ok v' w' ∧ OwnI w0 v' (xs ++ news) w' ∧ w.grownBy w' v.ownBlock := by
  obtain ⟨i0, hi, hz0, hz1, hz2⟩ := info_parts info_int
  rcases hx with ⟨b, o, c, rfl, hb, hc⟩ | ⟨rfl, rfl⟩
  · obtain ⟨v', w', hr, h2, h3, _, _⟩ := run_append_own_at (P := Try.prog) w w0.heap.size 33 ty 3 i0 (.int .i64 0) 1 8 Try.underlying33 hi hz0 hz1 hz2 rfl (by decide) v xs.length (ints xs) h.own ⟨b, o, none⟩ news.length c (ints news) (by simp [ints])
      (fun j u hu => by
        rw [Addr.add_lit]
        simp only [ints, List.getElem?_map, Option.map_eq_some_iff] at hu
        obtain ⟨y, hy, rfl⟩ := hu
        exact hc j y hy)
      (fun u hu => by
        simp only [ints, List.mem_map] at hu
        obtain ⟨y, _, rfl⟩ := hu
        rfl) (by unfold maxLen; omega) (by omega) h.kept.size
    refine ⟨v', w', hr, ⟨Kept.trans h.kept (Kept.grown (X := fun k => w0.heap.size ≤ k) (Kept.refl _ w) h3 (fun k e _ => (h.own.lt k e).1)) (fun k hk e => by omega), ?_⟩, h3⟩
    rw [ints_app, List.length_append]
    exact h2
  · refine ⟨v, w, ?_, by simpa using h, ⟨rfl, rfl, rfl, Nat.le_refl _, fun _ _ _ => rfl⟩⟩
    rcases h.own.2 with ⟨rfl, h0⟩ | ⟨g, cap, cur, rfl, hb, hg, hnc, hcm, hcs, htake⟩
    · simp [Builtin.append_, run_underlying Try.underlying33, sizeOf, typeInfo, hi, Builtin.lenOf, Builtin.firstCells]
    · simp [Builtin.append_, run_underlying Try.underlying33, sizeOf, typeInfo, hi, Builtin.lenOf, Builtin.firstCells, hnc, storeCells]

/-- append, as one step of a region that draws its order. -/
theorem step_app {ops : Array Oper} {o : Oper} {a : Act} {w : World} {K : Act → World → Prop} {Q : Exit → Act → World → Prop} {E : Prop}
    (hg : o.guard = none) (s x : Operand) (hop : o.op = Op.call { callee := Callee.builtin Builtin.append, args := #[s, x], argTypes := #[33, 33] })
    (w0 : World) (xs news : List Int) (h : OwnI w0 (a.eval s) xs w) (hx : SrcI (a.eval x) news w) (hlen : xs.length + news.length ≤ 1000)
    (hK : ∀ v' w', OwnI w0 v' (xs ++ news) w' → w.grownBy w' (a.eval s).ownBlock → K (a.put o.dst v') w') :
    if Region.wanted o (yielded ops a.tmps) = true then Oper.wp Try.prog o a w K Q else E := by
  have hw : Region.wanted o (yielded ops a.tmps) = true := by simp [Region.wanted, hg]
  rw [if_pos hw]
  obtain ⟨v', w', hr, h2, h3⟩ := run_app o.type w0 _ xs w h _ news hx hlen
  unfold Oper.wp execOp
  simp only [hop, resolve, invoke, builtin, Sem.run_bind, Sem.run_pure, Result.andThen_ok, List.map_toArray, List.map_cons, List.map_nil, hr]
  exact hK v' w' h2 h3

/-- What is appended lay there from the first. -/
theorem step_old {ops : Array Oper} {o : Oper} {a : Act} {w : World} {K : Act → World → Prop} {Q : Exit → Act → World → Prop} {E : Prop}
    (hg : o.guard = none) (s x : Operand) (hop : o.op = Op.call { callee := Callee.builtin Builtin.append, args := #[s, x], argTypes := #[33, 33] })
    (w0 : World) (xs news : List Int) (h : OwnI w0 (a.eval s) xs w) (hx : SrcI (a.eval x) news w0) (hlen : xs.length + news.length ≤ 1000)
    (hK : ∀ v' w', OwnI w0 v' (xs ++ news) w' → w.grownBy w' (a.eval s).ownBlock → K (a.put o.dst v') w') :
    if Region.wanted o (yielded ops a.tmps) = true then Oper.wp Try.prog o a w K Q else E :=
  step_app hg s x hop w0 xs news h (hx.kept h.kept (by simp)) hlen hK

theorem OwnI.alloc {w0 w : World} {v : Value} {xs : List Int} (h : OwnI w0 v xs w) (o : Obj) : OwnI w0 v xs (w.alloc o) := ⟨h.kept.alloc o, h.own.alloc o⟩

theorem OwnI.made {w0 w : World} (h : Kept (fun _ => False) w0 w) {E : Nat} (hE : w.heap.size = E) : OwnI w0 (.slice (some ⟨E, 0, none⟩) 0 0) [] (w.alloc (.cells #[] 3)) := by
  subst hE
  exact ⟨h.alloc _, World.ownsRow_made w #[] 0 h.size (by unfold maxLen; omega) rfl⟩

theorem SrcI.lone {w : World} {E : Nat} {i : Int} (h : w.heap[E]? = some (.cells #[.int .i64 i] 3 (0, 0))) : SrcI (.slice (some ⟨E, 0, none⟩) 1 1) [i] w := by
  refine .inl ⟨E, 0, 1, rfl, lt_at h, fun j u hu => ?_⟩
  obtain ⟨rfl, rfl⟩ : j = 0 ∧ u = i := by
    rcases j with _ | j
    · simp at hu; exact ⟨rfl, hu.symm⟩
    · simp at hu
  exact cell_at h (i := 0) rfl

theorem SrcI.grown {w w' : World} {E : Nat} {xs : List Int} {n c : Nat} {row : Option Nat} (h : SrcI (.slice (some ⟨E, 0, none⟩) n c) xs w) (hg : w.grownBy w' row) (hne : row ≠ some E) : SrcI (.slice (some ⟨E, 0, none⟩) n c) xs w' :=
  h.kept (Kept.grown (X := fun k => row = some k) (Kept.refl _ w) hg (fun k e _ => e)) (fun k e x => by
    have : E = k := by simpa [Value.ownBlock] using e
    subst this
    exact hne x)

/-- A part of a row. -/
theorem SrcI.part {w : World} {base g n cap : Nat} {xs : List Int} (h : w.ownsRow base 3 1 (.slice (some ⟨g, 0, none⟩) n cap) n (ints xs)) (o m c : Nat) (hm : o + m ≤ n) : SrcI (.slice (some ⟨g, o, none⟩) m c) ((xs.drop o).take m) w := by
  have hl : xs.length = n := by have := h.1; rw [ints_len] at this; omega
  refine .inl ⟨g, o, c, by congr 1; simp [List.length_take, List.length_drop]; omega, (h.lt g rfl).2, fun j u hu => ?_⟩
  have hj : j < m := by
    have := List.getElem?_eq_some_iff.1 hu
    obtain ⟨h1, _⟩ := this
    simp at h1
    omega
  have h2 : xs[o + j]? = some u := by
    rw [List.getElem?_take_of_lt hj, List.getElem?_drop] at hu
    exact hu
  have hc := h.cells (g := g) rfl (o + j) (.int .i64 u) (by simp [ints, h2])
  rw [Addr.add_lit, Nat.zero_add] at hc
  exact hc
end Go.Proofs.Ytlfcbijgncpieaa
