
/- An operation's run, told by its instruction's; no conditions. -/
import Derived.Test.YtkpcillgoeidaaaVals
namespace Go.Proofs.Ytkpcillgoeidaaa
open Go.RowKit

section
variable {ev : Operand → Value} {w w' : World} {d : Option Tmp} {t : TypeId} {p : String} {af : Array Edge} {g : Option (Nat × Bool)} {v : Value}

theorem exec_load {ty : TypeId} {x : Operand} {y : Value} (hx : ev x = y) (h : (Instr.loadAt ty y).run Try.prog w = .ok v w) : (execOp ev ⟨d, .load ty x, t, p, af, g⟩).run Try.prog w = .ok (.value v) w := by
  subst hx; simp [execOp, h]
theorem exec_store {ty : TypeId} {x y : Operand} {a b : Value} (hx : ev x = a) (hy : ev y = b) (h : (Instr.storeAt ty a b).run Try.prog w = .ok () w') : (execOp ev ⟨d, .store ty x y, t, p, af, g⟩).run Try.prog w = .ok .skip w' := by
  subst hx; subst hy; simp [execOp, h]
theorem exec_look {ty : TypeId} {x y : Operand} {a b : Value} {c : Bool} (hx : ev x = a) (hy : ev y = b) (h : (Instr.lookup ty a b c).run Try.prog w = .ok v w) : (execOp ev ⟨d, .lookup ty x y c, t, p, af, g⟩).run Try.prog w = .ok (.value v) w := by
  subst hx; subst hy; simp [execOp, h]
theorem exec_update {ty : TypeId} {x y z : Operand} {a b c : Value} (hx : ev x = a) (hy : ev y = b) (hz : ev z = c) (h : (Instr.mapUpdate ty a b c).run Try.prog w = .ok () w') : (execOp ev ⟨d, .mapUpdate ty x y z, t, p, af, g⟩).run Try.prog w = .ok .skip w' := by
  subst hx; subst hy; subst hz; simp [execOp, h]
theorem exec_field {ty : TypeId} {x : Operand} {a : Value} {i : Nat} (hx : ev x = a) (h : (Instr.field ty a i).run Try.prog w = .ok v w) : (execOp ev ⟨d, .field ty x i, t, p, af, g⟩).run Try.prog w = .ok (.value v) w := by
  subst hx; simp [execOp, h]
theorem exec_build {ty : TypeId} {ps : Array (Nat × Operand)} {vs : Array (Nat × Value)} (h : (Instr.build ty vs).run Try.prog w = .ok v w) (hx : (ps.map fun (i, x) => (i, ev x)) = vs) : (execOp ev ⟨d, .build ty ps, t, p, af, g⟩).run Try.prog w = .ok (.value v) w := by
  subst hx; simp [execOp, h]
theorem exec_slice {ty : TypeId} {n : Nat} {ps : Array (Nat × Operand)} {vs : Array (Nat × Value)} (h : (Instr.buildSlice ty n vs).run Try.prog w = .ok v w') (hx : (ps.map fun (i, x) => (i, ev x)) = vs) : (execOp ev ⟨d, .buildSlice ty n ps, t, p, af, g⟩).run Try.prog w = .ok (.value v) w' := by
  subst hx; simp [execOp, h]
theorem guard_vv (a : V) (x y : Operand) (op : BinOp) (w : World) : (eqGuard op 64 x y (vv a) (vv a)).run Try.prog w = .ok () w := by
  unfold vv eqGuard
  have hp : (program).run Try.prog w = .ok Try.prog w := rfl
  split <;> simp [Sem.run_bind]
theorem guard_wtv (a : (Int × Int) × V) (x y : Operand) (op : BinOp) (w : World) : (eqGuard op 66 x y (wtv a) (wtv a)).run Try.prog w = .ok () w := by
  unfold wtv eqGuard
  have hp : (program).run Try.prog w = .ok Try.prog w := rfl
  split <;> simp [Sem.run_bind]
theorem exec_eqV {x y : Operand} {a : V} {r : TypeId} (hx : ev x = vv a) (hy : ev y = vv a) : (execOp ev ⟨d, .binOp .eql 64 x y r, t, p, af, g⟩).run Try.prog w = .ok (.value (.bool true)) w := by
  have h := eq_vv a w
  have h2 := guard_vv a x y .eql w
  have h3 : (binOp .eql 64 (vv a) (vv a)).run Try.prog w = .ok (.bool true) w := by
    have : binOp .eql 64 (vv a) (vv a) = (do pure (.bool (← Op.equal 64 (vv a) (vv a)))) := rfl
    rw [this, Sem.run_bind, h]; rfl
  simp [execOp, hx, hy, h2, h3]
theorem exec_neV {x y : Operand} {a : V} {r : TypeId} (hx : ev x = vv a) (hy : ev y = vv a) : (execOp ev ⟨d, .binOp .neq 64 x y r, t, p, af, g⟩).run Try.prog w = .ok (.value (.bool false)) w := by
  have h := eq_vv a w
  have h2 := guard_vv a x y .neq w
  have h3 : (binOp .neq 64 (vv a) (vv a)).run Try.prog w = .ok (.bool false) w := by
    have : binOp .neq 64 (vv a) (vv a) = (do pure (.bool (!(← Op.equal 64 (vv a) (vv a))))) := rfl
    rw [this, Sem.run_bind, h]; rfl
  simp [execOp, hx, hy, h2, h3]
theorem exec_neW {x y : Operand} {a : (Int × Int) × V} {r : TypeId} (hx : ev x = wtv a) (hy : ev y = wtv a) : (execOp ev ⟨d, .binOp .neq 66 x y r, t, p, af, g⟩).run Try.prog w = .ok (.value (.bool false)) w := by
  have h := eq_wtv a w
  have h2 := guard_wtv a x y .neq w
  have h3 : (binOp .neq 66 (wtv a) (wtv a)).run Try.prog w = .ok (.bool false) w := by
    have : binOp .neq 66 (wtv a) (wtv a) = (do pure (.bool (!(← Op.equal 66 (wtv a) (wtv a))))) := rfl
    rw [this, Sem.run_bind, h]; rfl
  simp [execOp, hx, hy, h2, h3]
end

theorem wp_skip {P : Program} {o : Oper} {a : Act} {w w' : World} {K : Act → World → Prop} {Q : Exit → Act → World → Prop} (hr : (execOp a.eval o).run P w = .ok .skip w') (h : K (a.put o.dst undef) w') : o.wp P a w K Q := by
  unfold Oper.wp
  rw [hr]
  exact h
end Go.Proofs.Ytkpcillgoeidaaa
