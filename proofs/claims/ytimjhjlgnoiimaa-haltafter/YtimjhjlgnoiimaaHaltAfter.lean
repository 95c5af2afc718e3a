/- HaltAfter returns true on all deeds and numbers: what is to be done last is done once, behind the first, whatever becomes of that; the last one's own stop goes on, else the first one's; no conditions. -/
import Derived.Test.YtimjhjlgnoiimaaRows
import Derived.WalkKit
import Derived.ProofKit
import Derived.OpenShut
import Derived.Lib.SmallJoins
import Derived.Test.YtimjhjlgnoiimaaAfter
namespace Go.Proofs.Ytimjhjlgnoiimaa.haltAfter
open Go.ChangeShapes Go.WideShapes Go.ChangeAt Go.RowKit Go.Joins

theorem own : ownKnob Try.prog.godebug = none := by kernel_rfl
theorem cellsDeed : Try.prog.cellsOf 35 = 2 := by kernel_rfl

theorem walk (k at_ k' at' deep : Int) (w : World) :
    Calls Try.prog 5 #[.agg #[.int .i64 k, .int .i64 at_], .agg #[.int .i64 k', .int .i64 at'], .int .i64 deep] w fun e w' => e = .returned (.bool true) ∧ Below w.heap.size w w' :=
  (haltAfter_w k at_ k' at' deep w).mono fun _ _ ⟨he, hk⟩ => ⟨he, hk.below (by simp)⟩

set_option maxRecDepth 100000 in
theorem lifted (os : Os) (started : os.Started) (H : Type) (enc : TypeId × Value → H) :
    ReturnsInHanded {} Try.checked os 5 .any (Rows.haltAfterSpec.pre6 enc Try.prog Try.f5 Rows.haltAfterRow.domain false) (Rows.haltAfterSpec.post enc Try.prog Try.f5 false true false false) := by
  refine returnsInHanded_of_change (C := Try.checked) own started (by kernel_rfl) Try.func5
    (ChangeSpec.witness6 (enc := enc) (C := Try.checked) false ⟨#[], #[.agg #[.int .i64 0, .int .i64 0], .agg #[.int .i64 0, .int .i64 0], .int .i64 0], []⟩ 8 (by kernel_rfl) (by kernel_rfl) (by kernel_rfl) (by kernel_rfl)) ?_
  intro W base args ds gs before hval0 hW _ _
  have hval : ∀ (j : Nat) t v, Try.f5.params[j]? = some t → args[j]? = some v → Value.okWide Try.prog W .any base t v := hval0
  have hW' := hW
  obtain ⟨p, q, hA0, hV, rfl, _, _⟩ := hW
  have hA : DataW.TrodAll enc Try.prog W 0 (fun _ => true) true Try.f5.params.toList args.toList ds p := hA0
  rw [Try.params5] at hA hval
  obtain ⟨v0, vs0, d0, ds0, p0, q0, hargs, rfl, rfl, h0, r0⟩ := trodAll_cons hA
  obtain ⟨v1, vs1, d1, ds1, p1, q1, rfl, rfl, rfl, h1, r1⟩ := trodAll_cons r0
  obtain ⟨v2, vs2, d2, ds2, p2, q2, rfl, rfl, rfl, h2, r2⟩ := trodAll_cons r1
  obtain ⟨rfl, rfl, rfl⟩ := trodAll_nil r2
  obtain rfl : args = #[v0, v1, v2] := by cases args; simp_all
  obtain ⟨rfl, rfl⟩ := trodVars_none hV
  obtain ⟨a0, a1, ya0, ya1, ma, rfl, rfl, rfl, hya0, hya1⟩ := open_agg2 Try.underlying35 (by kernel_rfl) cellsDeed (hval 0 35 v0 rfl rfl) h0
  obtain ⟨k, e0, rfl, wk⟩ := DataW.trod_int Try.underlying3 hya0
  obtain ⟨at_, e1, rfl, wat⟩ := DataW.trod_int Try.underlying3 hya1
  simp at e0 e1
  subst e0 e1
  obtain ⟨b0, b1, yb0, yb1, mb, rfl, rfl, rfl, hyb0, hyb1⟩ := open_agg2 Try.underlying35 (by kernel_rfl) cellsDeed (hval 1 35 v1 rfl rfl) h1
  obtain ⟨k', e2, rfl, wk'⟩ := DataW.trod_int Try.underlying3 hyb0
  obtain ⟨at', e3, rfl, wat'⟩ := DataW.trod_int Try.underlying3 hyb1
  simp at e2 e3
  subst e2 e3
  obtain ⟨deep, rfl, rfl, rfl, wd⟩ := open_int Try.underlying3 (hval 2 3 v2 rfl rfl) h2
  clear hA0 hval0
  simp only [List.append_nil] at hW'
  have reads : ∀ (W' : World) (sp : Nat → Bool) (x y : Int), (Lit.int .i64 x).wf = true → (Lit.int .i64 y).wf = true → DataW.Trod enc Try.prog W' 0 sp true 35 (.agg #[.int .i64 x, .int .i64 y]) (.agg [.lit (.int .i64 x), .lit (.int .i64 y)]) [] := fun W' sp x y wx wy =>
    shut_agg2 (y0 := (.lit (.int .i64 x), [])) (y1 := (.lit (.int .i64 y), [])) Try.underlying35 (by kernel_rfl) cellsDeed ⟨1, by simp [DataW.trod, Try.underlying3, wx]⟩ ⟨1, by simp [DataW.trod, Try.underlying3, wy]⟩
  refine (walk k at_ k' at' deep W).mono fun e W' ⟨he, hg⟩ => ?_
  subst he
  exact ⟨_, rfl, _, _, _, [], [], [], hW', (trodAll_cons_mk (shut_bool Try.underlying4 _) trodAll_mk0), (trodAll_cons_mk (reads W' _ k at_ wk wat) (trodAll_cons_mk (reads W' _ k' at' wk' wat') (trodAll_cons_mk (shut_int Try.underlying3 wd) trodAll_mk0))), rfl, hg.frame _, fun h => by cases h⟩

theorem over : Rows.haltAfterRow.holds Try.pinned (OpenSpec.ofChange Rows.haltAfterSpec) :=
  OpenClaim.holds_of_wide 5 Try.f5 rfl rfl rfl rfl rfl rfl rfl ⟨rfl, rfl, rfl, rfl, rfl⟩ rfl rfl rfl rfl rfl (by kernel_rfl) Try.func5 (by kernel_rfl)
    (of_decide_eq_true (by kernel_rfl)) (by unfold Func.isWrapper; first | (rw [if_pos (by decide +kernel)]; kernel_rfl) | (rw [if_neg (by decide +kernel)]; exact ⟨rfl, rfl⟩))
    (fun os started H enc _ => lifted os started H enc)

theorem proved : Rows.HaltAfterSaid :=
  over
end Go.Proofs.Ytimjhjlgnoiimaa.haltAfter
namespace Go.Proofs.Ytimjhjlgnoiimaa
theorem haltAfter_holds : Rows.HaltAfterSaid := haltAfter.proved
#print axioms haltAfter_holds
end Go.Proofs.Ytimjhjlgnoiimaa
