/- TicketTurn returns true at every input: when all have taken a ticket and each that holds leaves at its next step, picked round and round each holds after as many rounds as there are harts, and one more; no conditions. -/
import Derived.Test.YtlfcbijgncpieaaRows
import Derived.WalkKit
import Derived.ProofKit
import Derived.OpenShut
import Derived.Lib.SmallJoins
import Derived.Test.YtlfcbijgncpieaaTurnW
import Derived.Test.YtlfcbijgncpieaaOpenArgs
namespace Go.Proofs.Ytlfcbijgncpieaa.ticketTurn
open Go.ChangeShapes Go.WideShapes Go.ChangeAt Go.RowKit Go.Joins

theorem own : ownKnob Try.prog.godebug = none := by kernel_rfl

set_option maxRecDepth 100000 in
theorem lifted (os : Os) (started : os.Started) (H : Type) (enc : TypeId × Value → H) :
    ReturnsInHanded {} Try.checked os 6 .any (Rows.ticketTurnSpec.pre6 enc Try.prog Try.f6 Rows.ticketTurnRow.domain false) (Rows.ticketTurnSpec.post enc Try.prog Try.f6 false true false false) := by
  refine returnsInHanded_of_change (C := Try.checked) own started (by kernel_rfl) Try.func6
    (ChangeSpec.witness6 (enc := enc) (C := Try.checked) false ⟨#[], #[.int .i64 0, .slice none 0 0], []⟩ 8 (by kernel_rfl) (by kernel_rfl) (by kernel_rfl) (by kernel_rfl)) ?_
  intro W base args ds gs before hval0 hW _ _
  have hval : ∀ (j : Nat) t v, Try.f6.params[j]? = some t → args[j]? = some v → Value.okWide Try.prog W .any base t v := hval0
  have hW' := hW
  obtain ⟨p, q, hA0, hV, rfl, _, _⟩ := hW
  have hA : DataW.TrodAll enc Try.prog W 0 (fun _ => true) true Try.f6.params.toList args.toList ds p := hA0
  rw [Try.params6] at hA hval
  obtain ⟨v0, vs0, d0, ds0, p0, q0, hargs, rfl, rfl, h0, r0⟩ := trodAll_cons hA
  obtain ⟨v1, vs1, d1, ds1, p1, q1, rfl, rfl, rfl, h1, r1⟩ := trodAll_cons r0
  obtain ⟨rfl, rfl, rfl⟩ := trodAll_nil r1
  obtain rfl : args = #[v0, v1] := by cases args; simp_all
  obtain ⟨rfl, rfl⟩ := trodVars_none hV
  obtain ⟨n, rfl, rfl, rfl, wn⟩ := open_int Try.underlying3 (hval 0 3 v0 rfl rfl) h0
  have hk := h1
  obtain ⟨ao, len, cap, lb, off, L, rfl, hao, hlc, hm, hc⟩ := open_ints (hval 1 33 v1 rfl rfl) h1
  clear hA0 hval0
  simp only [List.append_nil, List.nil_append] at hW'
  have hlt : ∀ x ∈ p1, x.block < W.heap.size := fun x hx => by simpa using hW'.lt x (by simpa using hx)
  refine (turn_law n ao len cap lb off L hao hlc hm W hc).mono fun e W' ⟨he, hkk⟩ => ?_
  subst he
  have hg := hkk.below (by simp)
  exact ⟨_, rfl, _, _, _, [], p1, [], hW', (trodAll_cons_mk (shut_bool Try.underlying4 _) trodAll_mk0), trodAll_cons_mk (p := []) (shut_int Try.underlying3 wn) (trodAll_mk1 (Below.trod laidOut (by kernel_rfl) (of_decide_eq_true (by kernel_rfl)) hk hg hlt)), rfl, hg.frame _, fun h => by cases h⟩

theorem over : Rows.ticketTurnRow.holds Try.pinned (OpenSpec.ofChange Rows.ticketTurnSpec) :=
  OpenClaim.holds_of_wide 6 Try.f6 rfl rfl rfl rfl rfl rfl rfl ⟨rfl, rfl, rfl, rfl, rfl⟩ rfl rfl rfl rfl rfl (by kernel_rfl) Try.func6 (by kernel_rfl)
    (of_decide_eq_true (by kernel_rfl)) (by unfold Func.isWrapper; first | (rw [if_pos (by decide +kernel)]; kernel_rfl) | (rw [if_neg (by decide +kernel)]; exact ⟨rfl, rfl⟩))
    (fun os started H enc _ => lifted os started H enc)

theorem proved : Rows.TicketTurnSaid :=
  over
end Go.Proofs.Ytlfcbijgncpieaa.ticketTurn
namespace Go.Proofs.Ytlfcbijgncpieaa
theorem ticketTurn_holds : Rows.TicketTurnSaid := ticketTurn.proved
#print axioms ticketTurn_holds
end Go.Proofs.Ytlfcbijgncpieaa
