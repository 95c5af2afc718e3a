
/- A region that draws its order, step by step: what is not wanted is passed over, what yields is taken, what is left is done; no conditions. -/
import Derived.Test.YtkpcillgoeidaaaBase
import Derived.Deep.RegionHeld3
namespace Go.Proofs.Ytkpcillgoeidaaa
open Go.RowKit

section
variable {P : Program} {ops : Array Oper} {Q : Exit → Act → World → Prop} {md : Region.Mode} {S : World → Prop}

/-- Operation i is not wanted: it is passed over. -/
theorem h_skip (i : Nat) (d : Option Tmp) {fuel : Nat} {listed : Array Bool} {a : Act} {w : World} (hd : (ops[i]?).map (fun o => o.dst) = some d)
    (hw : (ops[i]?).map (fun o => Region.wanted o (yielded ops a.tmps)) = some false) (hs : Region.noSelect ops = true) (hf : Region.free md ops listed i = true) (hr : (Region.ready md ops listed).contains i = true)
    (hQ : ∀ c a w, Q (.panic c) (a.put d undef) w → Q (.panic c) a w) (hS : S w)
    (h : wpAnyH P md ops Q S fuel (listed.setIfInBounds i true) (a.put d undef) w) : wpAnyH P md ops Q S (fuel + 1) listed a w := by
  cases ho : ops[i]? with
  | none => rw [ho] at hd; cases hd
  | some o =>
    rw [ho] at hd hw
    have hd' : o.dst = d := by simpa using hd
    subst hd'
    exact wpAnyH_take ho hs hf hr hQ (Or.inr ⟨by simpa using hw, rfl⟩) hS h

/-- Operation i yields v: it is taken. -/
theorem h_take (i : Nat) (d : Option Tmp) (op : Op) (t : TypeId) (v : Value) {fuel : Nat} {listed : Array Bool} {a : Act} {w : World} (hd : (ops[i]?).map (fun o => (o.dst, o.op, o.type)) = some (d, op, t))
    (hw : (ops[i]?).map (fun o => Region.wanted o (yielded ops a.tmps)) = some true) (hs : Region.noSelect ops = true) (hf : Region.free md ops listed i = true) (hr : (Region.ready md ops listed).contains i = true)
    (hQ : ∀ c a w, Q (.panic c) (a.put d v) w → Q (.panic c) a w) (hy : ∀ p af g w, S w → (execOp a.eval ⟨d, op, t, p, af, g⟩).run P w = .ok (.value v) w) (hS : S w)
    (h : wpAnyH P md ops Q S fuel (listed.setIfInBounds i true) (a.put d v) w) : wpAnyH P md ops Q S (fuel + 1) listed a w := by
  cases ho : ops[i]? with
  | none => rw [ho] at hd; cases hd
  | some o =>
    rw [ho] at hd hw
    obtain ⟨d', op', t', p, af, g⟩ := o
    have hd' : (d', op', t') = (d, op, t) := by simpa using hd
    cases hd'
    exact wpAnyH_take ho hs hf hr hQ (Or.inl ⟨by simpa using hw, fun w hSw => hy p af g w hSw⟩) hS h

/-- Operation i alone may come up: it is done. -/
theorem h_step (i : Nat) (d : Option Tmp) (op : Op) (t : TypeId) {fuel : Nat} {listed : Array Bool} {a : Act} {w : World} (hd : (ops[i]?).map (fun o => (o.dst, o.op, o.type)) = some (d, op, t))
    (hw : (ops[i]?).map (fun o => Region.wanted o (yielded ops a.tmps)) = some true) (hr : Region.ready md ops listed = [i])
    (h : ∀ p af g (K : Act → World → Prop), Shut (∀ a w, S w → (S w → wpAnyH P md ops Q S fuel (listed.setIfInBounds i true) a w) → K a w) → Oper.wp P ⟨d, op, t, p, af, g⟩ a w K Q) : wpAnyH P md ops Q S (fuel + 1) listed a w := by
  cases ho : ops[i]? with
  | none => rw [ho] at hd; cases hd
  | some o =>
    rw [ho] at hd hw
    obtain ⟨d', op', t', p, af, g⟩ := o
    have hd' : (d', op', t') = (d, op, t) := by simpa using hd
    cases hd'
    refine wpAnyH_ready hr (by simp) (AllReadyH.cons ho (fun K hK => ?_) AllReadyH.nil)
    rw [if_pos (by simpa using hw)]
    exact h p af g K hK

/-- Two operations may come up. -/
theorem h_two (i : Nat) (d : Option Tmp) (op : Op) (t : TypeId) (j : Nat) (d2 : Option Tmp) (op2 : Op) (t2 : TypeId) {fuel : Nat} {listed : Array Bool} {a : Act} {w : World} (hd : (ops[i]?).map (fun o => (o.dst, o.op, o.type)) = some (d, op, t)) (hd2 : (ops[j]?).map (fun o => (o.dst, o.op, o.type)) = some (d2, op2, t2))
    (hw : (ops[i]?).map (fun o => Region.wanted o (yielded ops a.tmps)) = some true) (hw2 : (ops[j]?).map (fun o => Region.wanted o (yielded ops a.tmps)) = some true) (hr : Region.ready md ops listed = [i, j])
    (h : ∀ p af g (K : Act → World → Prop), Shut (∀ a w, S w → (S w → wpAnyH P md ops Q S fuel (listed.setIfInBounds i true) a w) → K a w) → Oper.wp P ⟨d, op, t, p, af, g⟩ a w K Q)
    (h2 : ∀ p af g (K : Act → World → Prop), Shut (∀ a w, S w → (S w → wpAnyH P md ops Q S fuel (listed.setIfInBounds j true) a w) → K a w) → Oper.wp P ⟨d2, op2, t2, p, af, g⟩ a w K Q) : wpAnyH P md ops Q S (fuel + 1) listed a w := by
  cases ho : ops[i]? with
  | none => rw [ho] at hd; cases hd
  | some o =>
    cases ho2 : ops[j]? with
    | none => rw [ho2] at hd2; cases hd2
    | some o2 =>
      rw [ho] at hd hw
      rw [ho2] at hd2 hw2
      obtain ⟨d', op', t', p, af, g⟩ := o
      have hd' : (d', op', t') = (d, op, t) := by simpa using hd
      cases hd'
      obtain ⟨d2', op2', t2', p2, af2, g2⟩ := o2
      have hd2' : (d2', op2', t2') = (d2, op2, t2) := by simpa using hd2
      cases hd2'
      refine wpAnyH_ready hr (by simp) (AllReadyH.cons ho (fun K hK => ?_) (AllReadyH.cons ho2 (fun K hK => ?_) AllReadyH.nil))
      · rw [if_pos (by simpa using hw)]
        exact h p af g K hK
      · rw [if_pos (by simpa using hw2)]
        exact h2 p2 af2 g2 K hK
end

theorem wp_yield {P : Program} {o : Oper} {a : Act} {w w' : World} {v : Value} {K : Act → World → Prop} {Q : Exit → Act → World → Prop} (hr : (execOp a.eval o).run P w = .ok (.value v) w') (h : K (a.put o.dst v) w') : o.wp P a w K Q := by
  unfold Oper.wp
  rw [hr]
  exact h
end Go.Proofs.Ytkpcillgoeidaaa
