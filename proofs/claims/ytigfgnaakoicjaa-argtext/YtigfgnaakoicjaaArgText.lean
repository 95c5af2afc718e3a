
/- ArgText returns true at every input: a text ends at its first nought, is as long as that says and no longer than may be; behind the last nought there is none; no conditions. -/
import Derived.Test.YtigfgnaakoicjaaRows
import Derived.WalkKit
import Derived.ProofKit
import Derived.OpenShut
import Derived.Lib.SmallJoins
import Derived.Test.YtigfgnaakoicjaaArT
import Derived.Test.YtigfgnaakoicjaaOpenArgs
namespace Go.Proofs.Ytigfgnaakoicjaa.argText
open Go.ChangeShapes Go.WideShapes Go.ChangeAt Go.RowKit Go.Joins

theorem own : ownKnob Try.prog.godebug = none := by kernel_rfl

set_option maxRecDepth 100000 in
theorem lifted (os : Os) (started : os.Started) (H : Type) (enc : TypeId × Value → H) :
    ReturnsInHanded {} Try.checked os 4 .any (Rows.argTextSpec.pre6 enc Try.prog Try.f4 Rows.argTextRow.domain false) (Rows.argTextSpec.post enc Try.prog Try.f4 false true false false) := by
  refine returnsInHanded_of_change (C := Try.checked) own started (by kernel_rfl) Try.func4
    (ChangeSpec.witness6 (enc := enc) (C := Try.checked) false ⟨#[], #[.slice none 0 0, .int .i64 0, .int .i64 0], []⟩ 8 (by kernel_rfl) (by kernel_rfl) (by kernel_rfl) (by kernel_rfl)) ?_
  intro W base args ds gs before hval0 hW _ _
  have hval : ∀ (j : Nat) t v, Try.f4.params[j]? = some t → args[j]? = some v → Value.okWide Try.prog W .any base t v := hval0
  have hW' := hW
  obtain ⟨p, q, hA0, hV, rfl, _, _⟩ := hW
  have hA : DataW.TrodAll enc Try.prog W 0 (fun _ => true) true Try.f4.params.toList args.toList ds p := hA0
  rw [Try.params4] at hA hval
  obtain ⟨v0, vs0, d0, ds0, p0, q0, hargs, rfl, rfl, h0, r0⟩ := trodAll_cons hA
  obtain ⟨v1, vs1, d1, ds1, p1, q1, rfl, rfl, rfl, h1, r1⟩ := trodAll_cons r0
  obtain ⟨v2, vs2, d2, ds2, p2, q2, rfl, rfl, rfl, h2, r2⟩ := trodAll_cons r1
  obtain ⟨rfl, rfl, rfl⟩ := trodAll_nil r2
  obtain rfl : args = #[v0, v1, v2] := by cases args; simp_all
  obtain ⟨rfl, rfl⟩ := trodVars_none hV
  have k0 := h0
  obtain ⟨ao0, len0, cap0, lb0, off0, Q0, rfl, hao0, hlc0, hm0, hc0⟩ := open_strs (hval 0 35 v0 rfl rfl) h0
  have k1 := h1
  obtain ⟨x1, rfl⟩ := form_int (hval 1 3 v1 rfl rfl) h1
  have k2 := h2
  obtain ⟨x2, rfl⟩ := form_int (hval 2 3 v2 rfl rfl) h2
  clear hA0 hval0
  simp only [List.append_nil] at hW'
  have hlt0 : ∀ x ∈ p0, x.block < W.heap.size := fun x hx => by simpa using hW'.lt x (by simp [hx])
  have hlt1 : ∀ x ∈ p1, x.block < W.heap.size := fun x hx => by simpa using hW'.lt x (by simp [hx])
  have hlt2 : ∀ x ∈ p2, x.block < W.heap.size := fun x hx => by simpa using hW'.lt x (by simp [hx])
  refine (text_law ao0 len0 cap0 lb0 off0 Q0 hao0 x1 x2 W hc0).mono fun e W' ⟨he, hkept⟩ => ?_
  subst he
  have hg := hkept.below (by simp)
  have hz := trodAll_cons_mk (Below.trod laidOut (by kernel_rfl) (of_decide_eq_true (by kernel_rfl)) k0 hg hlt0) (trodAll_cons_mk (Below.trod laidOut (by kernel_rfl) (of_decide_eq_true (by kernel_rfl)) k1 hg hlt1) (trodAll_mk1 (Below.trod laidOut (by kernel_rfl) (of_decide_eq_true (by kernel_rfl)) k2 hg hlt2)))
  try simp only [List.append_nil] at hz
  exact ⟨_, rfl, _, _, _, [], p0 ++ (p1 ++ (p2)), [], hW', (trodAll_cons_mk (shut_bool Try.underlying4 _) trodAll_mk0), hz, rfl, hg.frame _, fun h => by cases h⟩

theorem over : Rows.argTextRow.holds Try.pinned (OpenSpec.ofChange Rows.argTextSpec) :=
  OpenClaim.holds_of_wide 4 Try.f4 rfl rfl rfl rfl rfl rfl rfl ⟨rfl, rfl, rfl, rfl, rfl⟩ rfl rfl rfl rfl rfl (by kernel_rfl) Try.func4 (by kernel_rfl)
    (of_decide_eq_true (by kernel_rfl)) (by unfold Func.isWrapper; first | (rw [if_pos (by decide +kernel)]; kernel_rfl) | (rw [if_neg (by decide +kernel)]; exact ⟨rfl, rfl⟩))
    (fun os started H enc _ => lifted os started H enc)

theorem proved : Rows.ArgTextSaid :=
  over
end Go.Proofs.Ytigfgnaakoicjaa.argText
namespace Go.Proofs.Ytigfgnaakoicjaa
theorem argText_holds : Rows.ArgTextSaid := argText.proved
#print axioms argText_holds
end Go.Proofs.Ytigfgnaakoicjaa
