/- RankOwn returns true at every input: what is taken rising and let go in any order is had between, and no longer, and nobody else's is touched; no conditions. -/
import Derived.Test.YtkmfeenooidbhaaRows
import Derived.WalkKit
import Derived.ProofKit
import Derived.OpenShut
import Derived.Lib.SmallJoins
import Derived.Test.YtkmfeenooidbhaaOwn
import Derived.Test.YtkmfeenooidbhaaOpenArgs
namespace Go.Proofs.Ytkmfeenooidbhaa.rankOwn
open Go.ChangeShapes Go.WideShapes Go.ChangeAt Go.RowKit Go.Joins

theorem own : ownKnob Try.prog.godebug = none := by kernel_rfl

set_option maxRecDepth 100000 in
theorem lifted (os : Os) (started : os.Started) (H : Type) (enc : TypeId × Value → H) :
    ReturnsInHanded {} Try.checked os 6 .any (Rows.rankOwnSpec.pre6 enc Try.prog Try.f6 Rows.rankOwnRow.domain false) (Rows.rankOwnSpec.post enc Try.prog Try.f6 false true false false) := by
  refine returnsInHanded_of_change (C := Try.checked) own started (by kernel_rfl) Try.func6
    (ChangeSpec.witness6 (enc := enc) (C := Try.checked) false ⟨#[], #[.int .i64 0, .int .i64 0, .slice none 0 0, .slice none 0 0], []⟩ 8 (by kernel_rfl) (by kernel_rfl) (by kernel_rfl) (by kernel_rfl)) ?_
  intro W base args ds gs before hval0 hW _ _
  have hval : ∀ (j : Nat) t v, Try.f6.params[j]? = some t → args[j]? = some v → Value.okWide Try.prog W .any base t v := hval0
  have hW' := hW
  obtain ⟨p, q, hA0, hV, rfl, _, _⟩ := hW
  have hA : DataW.TrodAll enc Try.prog W 0 (fun _ => true) true Try.f6.params.toList args.toList ds p := hA0
  rw [Try.params6] at hA hval
  obtain ⟨v0, vs0, d0, ds0, p0, q0, hargs, rfl, rfl, h0, r0⟩ := trodAll_cons hA
  obtain ⟨v1, vs1, d1, ds1, p1, q1, rfl, rfl, rfl, h1, r1⟩ := trodAll_cons r0
  obtain ⟨v2, vs2, d2, ds2, p2, q2, rfl, rfl, rfl, h2, r2⟩ := trodAll_cons r1
  obtain ⟨v3, vs3, d3, ds3, p3, q3, rfl, rfl, rfl, h3, r3⟩ := trodAll_cons r2
  obtain ⟨rfl, rfl, rfl⟩ := trodAll_nil r3
  obtain rfl : args = #[v0, v1, v2, v3] := by cases args; simp_all
  obtain ⟨rfl, rfl⟩ := trodVars_none hV
  obtain ⟨n, rfl, rfl, rfl, wn⟩ := open_int Try.underlying3 (hval 0 3 v0 rfl rfl) h0
  obtain ⟨me, rfl, rfl, rfl, wm⟩ := open_int Try.underlying3 (hval 1 3 v1 rfl rfl) h1
  have hk := h2
  obtain ⟨ao, len, cap, lb, off, L, rfl, hao, hlc, hm, hc⟩ := open_ints (hval 2 30 v2 rfl rfl) h2
  have hkk := h3
  obtain ⟨wo, wlen, wcap, wb, woff, X, rfl, hwo, hwc, hwm, hX⟩ := open_ints (hval 3 30 v3 rfl rfl) h3
  clear hA0 hval0
  simp only [List.append_nil, List.nil_append] at hW'
  have hlt : ∀ x ∈ p2 ++ p3, x.block < W.heap.size := fun x hx => by simpa using hW'.lt x (by simpa using hx)
  refine (own_w n me ao len cap lb off L hao wo wlen wcap wb woff X hwo W hc hX).mono fun e W' ⟨he, hkept⟩ => ?_
  subst he
  have hg := hkept.below (by simp)
  have hz := trodAll_cons_mk (p := []) (shut_int Try.underlying3 wn) (trodAll_cons_mk (p := []) (shut_int Try.underlying3 wm) (trodAll_cons_mk (Below.trod laidOut (by kernel_rfl) (of_decide_eq_true (by kernel_rfl)) hk hg (fun x hx => hlt x (by simp [hx]))) (trodAll_mk1 (Below.trod laidOut (by kernel_rfl) (of_decide_eq_true (by kernel_rfl)) hkk hg (fun x hx => hlt x (by simp [hx]))))))
  simp only [List.nil_append] at hz
  exact ⟨_, rfl, _, _, _, [], p2 ++ p3, [], hW', (trodAll_cons_mk (shut_bool Try.underlying4 _) trodAll_mk0), hz, rfl, hg.frame _, fun h => by cases h⟩

theorem over : Rows.rankOwnRow.holds Try.pinned (OpenSpec.ofChange Rows.rankOwnSpec) :=
  OpenClaim.holds_of_wide 6 Try.f6 rfl rfl rfl rfl rfl rfl rfl ⟨rfl, rfl, rfl, rfl, rfl⟩ rfl rfl rfl rfl rfl (by kernel_rfl) Try.func6 (by kernel_rfl)
    (of_decide_eq_true (by kernel_rfl)) (by unfold Func.isWrapper; first | (rw [if_pos (by decide +kernel)]; kernel_rfl) | (rw [if_neg (by decide +kernel)]; exact ⟨rfl, rfl⟩))
    (fun os started H enc _ => lifted os started H enc)

theorem proved : Rows.RankOwnSaid :=
  over
end Go.Proofs.Ytkmfeenooidbhaa.rankOwn
namespace Go.Proofs.Ytkmfeenooidbhaa
theorem rankOwn_holds : Rows.RankOwnSaid := rankOwn.proved
#print axioms rankOwn_holds
end Go.Proofs.Ytkmfeenooidbhaa
