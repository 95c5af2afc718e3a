/- StoreApart returns true at every input: what two views write that have nothing in common comes to the same in whatever order it is put into the store; no conditions. -/
import Derived.Test.YtehifngelkenaaaRows
import Derived.WalkKit
import Derived.ProofKit
import Derived.OpenShut
import Derived.Lib.SmallJoins
import Derived.Test.YtehifngelkenaaaApart
import Derived.Test.YtehifngelkenaaaOpenBools
namespace Go.Proofs.Ytehifngelkenaaa.storeApart
open Go.ChangeShapes Go.WideShapes Go.ChangeAt Go.RowKit Go.Joins

theorem own : ownKnob Try.prog.godebug = none := by kernel_rfl

set_option maxRecDepth 100000 in
theorem lifted (os : Os) (started : os.Started) (H : Type) (enc : TypeId × Value → H) :
    ReturnsInHanded {} Try.checked os 5 .any (Rows.storeApartSpec.pre6 enc Try.prog Try.f5 Rows.storeApartRow.domain false) (Rows.storeApartSpec.post enc Try.prog Try.f5 false true false false) := by
  refine returnsInHanded_of_change (C := Try.checked) own started (by kernel_rfl) Try.func5
    (ChangeSpec.witness6 (enc := enc) (C := Try.checked) false ⟨#[], #[.slice none 0 0, .slice none 0 0, .slice none 0 0, .slice none 0 0], []⟩ 8 (by kernel_rfl) (by kernel_rfl) (by kernel_rfl) (by kernel_rfl)) ?_
  intro W base args ds gs before hval0 hW _ _
  have hval : ∀ (j : Nat) t v, Try.f5.params[j]? = some t → args[j]? = some v → Value.okWide Try.prog W .any base t v := hval0
  have hW' := hW
  obtain ⟨p, q, hA0, hV, rfl, _, _⟩ := hW
  have hA : DataW.TrodAll enc Try.prog W 0 (fun _ => true) true Try.f5.params.toList args.toList ds p := hA0
  rw [Try.params5] at hA hval
  obtain ⟨v0, vs0, d0, ds0, p0, q0, hargs, rfl, rfl, h0, r0⟩ := trodAll_cons hA
  obtain ⟨v1, vs1, d1, ds1, p1, q1, rfl, rfl, rfl, h1, r1⟩ := trodAll_cons r0
  obtain ⟨v2, vs2, d2, ds2, p2, q2, rfl, rfl, rfl, h2, r2⟩ := trodAll_cons r1
  obtain ⟨v3, vs3, d3, ds3, p3, q3, rfl, rfl, rfl, h3, r3⟩ := trodAll_cons r2
  obtain ⟨rfl, rfl, rfl⟩ := trodAll_nil r3
  obtain rfl : args = #[v0, v1, v2, v3] := by cases args; simp_all
  obtain ⟨rfl, rfl⟩ := trodVars_none hV
  have k0 := h0
  obtain ⟨ao0, len0, cap0, lb0, off0, Q0, rfl, hao0, hlc0, hm0, hc0⟩ := open_asks (hval 0 44 v0 rfl rfl) h0
  have k1 := h1
  obtain ⟨ao1, len1, cap1, lb1, off1, Q1, rfl, hao1, hlc1, hm1, hc1⟩ := open_asks (hval 1 44 v1 rfl rfl) h1
  have k2 := h2
  obtain ⟨ao2, len2, cap2, lb2, off2, Q2, rfl, hao2, hlc2, hm2, hc2⟩ := open_asks (hval 2 44 v2 rfl rfl) h2
  have k3 := h3
  obtain ⟨ao3, len3, cap3, lb3, off3, Q3, rfl, hao3, hlc3, hm3, hc3⟩ := open_bools (hval 3 55 v3 rfl rfl) h3
  clear hA0 hval0
  simp only [List.append_nil] at hW'
  have hlt0 : ∀ x ∈ p0, x.block < W.heap.size := fun x hx => by simpa using hW'.lt x (by simp [hx])
  have hlt1 : ∀ x ∈ p1, x.block < W.heap.size := fun x hx => by simpa using hW'.lt x (by simp [hx])
  have hlt2 : ∀ x ∈ p2, x.block < W.heap.size := fun x hx => by simpa using hW'.lt x (by simp [hx])
  have hlt3 : ∀ x ∈ p3, x.block < W.heap.size := fun x hx => by simpa using hW'.lt x (by simp [hx])
  refine (apart_law ao0 len0 cap0 lb0 off0 Q0 hao0 ao1 len1 cap1 lb1 off1 Q1 hao1 ao2 len2 cap2 lb2 off2 Q2 hao2 ao3 len3 cap3 lb3 off3 Q3 hao3 W hc0 hc1 hc2 hc3 ).mono fun e W' ⟨he, hkept⟩ => ?_
  subst he
  have hg := hkept.below (by simp)
  have hz := trodAll_cons_mk (Below.trod laidOut (by kernel_rfl) (of_decide_eq_true (by kernel_rfl)) k0 hg hlt0) (trodAll_cons_mk (Below.trod laidOut (by kernel_rfl) (of_decide_eq_true (by kernel_rfl)) k1 hg hlt1) (trodAll_cons_mk (Below.trod laidOut (by kernel_rfl) (of_decide_eq_true (by kernel_rfl)) k2 hg hlt2) (trodAll_mk1 (Below.trod laidOut (by kernel_rfl) (of_decide_eq_true (by kernel_rfl)) k3 hg hlt3))))
  try simp only [List.append_nil] at hz
  exact ⟨_, rfl, _, _, _, [], p0 ++ (p1 ++ (p2 ++ (p3))), [], hW', (trodAll_cons_mk (shut_bool Try.underlying4 _) trodAll_mk0), hz, rfl, hg.frame _, fun h => by cases h⟩

theorem over : Rows.storeApartRow.holds Try.pinned (OpenSpec.ofChange Rows.storeApartSpec) :=
  OpenClaim.holds_of_wide 5 Try.f5 rfl rfl rfl rfl rfl rfl rfl ⟨rfl, rfl, rfl, rfl, rfl⟩ rfl rfl rfl rfl rfl (by kernel_rfl) Try.func5 (by kernel_rfl)
    (of_decide_eq_true (by kernel_rfl)) (by unfold Func.isWrapper; first | (rw [if_pos (by decide +kernel)]; kernel_rfl) | (rw [if_neg (by decide +kernel)]; exact ⟨rfl, rfl⟩))
    (fun os started H enc _ => lifted os started H enc)

theorem proved : Rows.StoreApartSaid :=
  over
end Go.Proofs.Ytehifngelkenaaa.storeApart
namespace Go.Proofs.Ytehifngelkenaaa
theorem storeApart_holds : Rows.StoreApartSaid := storeApart.proved
#print axioms storeApart_holds
end Go.Proofs.Ytehifngelkenaaa
