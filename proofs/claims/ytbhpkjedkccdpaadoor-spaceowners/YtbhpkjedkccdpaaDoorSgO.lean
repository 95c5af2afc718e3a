
/- A map that counts; what SpaceOwners counts, as plain functions; no conditions. -/
import Derived.Test.YtbhpkjedkccdpaaDoorSgX
namespace Go.Proofs.YtbhpkjedkccdpaaDoor
open Go.RowKit
set_option maxRecDepth 100000
set_option linter.unusedSimpArgs false

/-- o counts what l has. -/
def OcN (o : Int → Option Int) (l : List Int) : Prop := ∀ k : Int, (o k).getD 0 = ((l.count k : Nat) : Int)
theorem ocn_nil : OcN (fun _ => none) [] := fun _ => rfl
theorem OcN.add {o : Int → Option Int} {l : List Int} (h : OcN o l) (x : Int) : OcN (upd o x ((o x).getD 0 + 1)) (l ++ [x]) := by
  intro k
  unfold upd
  rw [List.count_append]
  by_cases c : k = x
  · subst c
    rw [if_pos rfl]
    have := h k
    simp only [Option.getD_some, List.count_singleton_self]
    omega
  · rw [if_neg c, h k]
    have : List.count k [x] = 0 := List.count_eq_zero.2 (by simp [c])
    omega
def iw (n : Int) : Value := .int .i64 n
theorem look_o {O : Nat} {o : Int → Option Int} {w : World} (h : MapIn iv iw O o w) (n : Int) : (Instr.lookup 55 (.map (some O)) (.int .i64 n) false).run Tryd.prog w = .ok (.int .i64 ((o n).getD 0)) w := by
  have := h.look keyok_iv Tryd.underlying55 (z := .int .i64 0) (fun w => by kernel_rfl) n false
  unfold iv at this
  rw [this]
  cases o n <;> rfl
theorem store_o {O : Nat} {o : Int → Option Int} {w : World} (h : MapIn iv iw O o w) (n x : Int) : ∃ w', (Instr.mapUpdate 55 (.map (some O)) (.int .i64 n) (.int .i64 x)).run Tryd.prog w = .ok () w' ∧ MapIn iv iw O (upd o n x) w' ∧ Kept (fun b => b = O) w w' := by
  obtain ⟨w', h1, h2, h3, -⟩ := h.store keyok_iv Tryd.underlying55 n x
  exact ⟨w', h1, h2, h3⟩
theorem count_cast (l : List Nat) (g : Nat) : (l.map (fun j : Nat => (j : Int))).count (g : Int) = l.count g := by
  induction l with
  | nil => rfl
  | cons a l ih =>
    rw [List.map_cons, List.count_cons, List.count_cons, ih]
    congr 1
    by_cases c : a = g
    · subst c; simp
    · simp [c]; omega
end Go.Proofs.YtbhpkjedkccdpaaDoor
