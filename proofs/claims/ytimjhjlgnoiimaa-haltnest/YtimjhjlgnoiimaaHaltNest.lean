/- HaltNest returns true on all pairs of rows of deeds: guards within guards: each stop ends at its own; a row within a row goes on behind it; no conditions. -/
import Derived.Test.YtimjhjlgnoiimaaRows
import Derived.WalkKit
import Derived.ProofKit
import Derived.OpenShut
import Derived.Test.YtimjhjlgnoiimaaNest
import Derived.Test.YtimjhjlgnoiimaaOpenDeeds
namespace Go.Proofs.Ytimjhjlgnoiimaa.haltNest
open Go.ChangeShapes Go.WideShapes Go.ChangeAt Go.RowKit

theorem own : ownKnob Try.prog.godebug = none := by kernel_rfl

set_option maxRecDepth 100000 in
theorem lifted (os : Os) (started : os.Started) (H : Type) (enc : TypeId × Value → H) :
    ReturnsInHanded {} Try.checked os 7 .any (Rows.haltNestSpec.pre6 enc Try.prog Try.f7 Rows.haltNestRow.domain false) (Rows.haltNestSpec.post enc Try.prog Try.f7 false true false false) := by
  refine returnsInHanded_of_change (C := Try.checked) own started (by kernel_rfl) Try.func7
    (ChangeSpec.witness6 (enc := enc) (C := Try.checked) false ⟨#[], #[.slice none 0 0, .slice none 0 0], []⟩ 8 (by kernel_rfl) (by kernel_rfl) (by kernel_rfl) (by kernel_rfl)) ?_
  intro W base args ds gs before hval0 hW _ _
  have hval : ∀ (j : Nat) t v, Try.f7.params[j]? = some t → args[j]? = some v → Value.okWide Try.prog W .any base t v := hval0
  have hW' := hW
  obtain ⟨p, q, hA0, hV, rfl, _, _⟩ := hW
  have hA : DataW.TrodAll enc Try.prog W 0 (fun _ => true) true Try.f7.params.toList args.toList ds p := hA0
  rw [Try.params7] at hA hval
  obtain ⟨v0, vs0, d0, ds0, p0, q0, hargs, rfl, rfl, h0, r0⟩ := trodAll_cons hA
  obtain ⟨v1, vs1, d1, ds1, p1, q1, rfl, rfl, rfl, h1, r1⟩ := trodAll_cons r0
  obtain ⟨rfl, rfl, rfl⟩ := trodAll_nil r1
  obtain rfl : args = #[v0, v1] := by cases args; simp_all
  obtain ⟨rfl, rfl⟩ := trodVars_none hV
  have h0k := h0
  have h1k := h1
  obtain ⟨ao, len, cap, b, off, K, A, rfl, hao, _, hlc, hm, hc⟩ := open_deeds (hval 0 32 v0 rfl rfl) h0
  obtain ⟨ao2, len2, cap2, b2, off2, K2, A2, rfl, hao2, _, _, _, hc2⟩ := open_deeds (hval 1 32 v1 rfl rfl) h1
  clear hA0 hval0
  simp only [List.append_nil] at hW'
  have hlt : ∀ x ∈ p0 ++ p1, x.block < W.heap.size := fun x hx => by simpa using hW'.lt x hx
  refine (haltNest_w ao ao2 len cap b off len2 cap2 b2 off2 K A K2 A2 hlc hm W ⟨hao, hc⟩ ⟨hao2, hc2⟩).mono fun e W' ⟨he, hk⟩ => ?_
  subst he
  have hg := hk.below (by simp)
  exact ⟨_, rfl, _, _, _, [], _, [], hW', (trodAll_cons_mk (shut_bool Try.underlying4 _) trodAll_mk0),
    (trodAll_cons_mk (Below.trod laidOut (by kernel_rfl) (of_decide_eq_true (by kernel_rfl)) h0k hg (fun x hx => hlt x (List.mem_append_left _ hx)))
      (trodAll_cons_mk (Below.trod laidOut (by kernel_rfl) (of_decide_eq_true (by kernel_rfl)) h1k hg (fun x hx => hlt x (List.mem_append_right _ hx))) trodAll_mk0)), rfl, hg.frame _, fun h => by cases h⟩

theorem over : Rows.haltNestRow.holds Try.pinned (OpenSpec.ofChange Rows.haltNestSpec) :=
  OpenClaim.holds_of_wide 7 Try.f7 rfl rfl rfl rfl rfl rfl rfl ⟨rfl, rfl, rfl, rfl, rfl⟩ rfl rfl rfl rfl rfl (by kernel_rfl) Try.func7 (by kernel_rfl)
    (of_decide_eq_true (by kernel_rfl)) (by unfold Func.isWrapper; first | (rw [if_pos (by decide +kernel)]; kernel_rfl) | (rw [if_neg (by decide +kernel)]; exact ⟨rfl, rfl⟩))
    (fun os started H enc _ => lifted os started H enc)

theorem proved : Rows.HaltNestSaid :=
  over
end Go.Proofs.Ytimjhjlgnoiimaa.haltNest
namespace Go.Proofs.Ytimjhjlgnoiimaa
theorem haltNest_holds : Rows.HaltNestSaid := haltNest.proved
#print axioms haltNest_holds
end Go.Proofs.Ytimjhjlgnoiimaa
