/- A slice of deeds that came in, as the walks want it; no conditions. -/
import Derived.Test.YtimjhjlgnoiimaaFs
import Derived.ProofKit
import Derived.OpenShut
import Derived.Carry
import Derived.Deep.SlicePairs
namespace Go.Proofs.Ytimjhjlgnoiimaa
open Go.ChangeShapes Go.WideShapes Go.ChangeAt Go.RowKit Go.Deep

theorem cellsDeed : Try.prog.cellsOf 35 = 2 := by kernel_rfl
theorem cellsInt : Try.prog.cellsOf 3 = 1 := by kernel_rfl
theorem laidOut : laidOutB Try.prog = true := by kernel_rfl

theorem spot_none {w : World} {a : Addr} {v : Value} (h : w.cell? a = some v) : a.spot = none := by
  cases hs : a.spot with
  | none => rfl
  | some s =>
    unfold World.cell? at h
    rw [hs] at h
    split at h <;> simp at h

theorem open_deeds {H : Type} {enc : TypeId × Value → H} {W : World} {base : Nat} {v : Value} {d : DataW H} {p : List MemPlace} (hv : Value.okWide Try.prog W .any base 32 v) (h : DataW.Trod enc Try.prog W 0 (fun _ => true) true 32 v d p) :
    ∃ (ao : Option Addr) (len cap b off : Nat) (K A : Nat → Int), v = .slice ao len cap ∧ (0 < len → ao = some ⟨b, off, none⟩) ∧ (ao = none → len = 0 ∧ cap = 0) ∧ len ≤ cap ∧ cap ≤ 9223372036854775807 ∧
      ∀ i, i < len → W.cell? ⟨b, off + i * 2, none⟩ = some (.int .i64 (K i)) ∧ W.cell? ⟨b, off + i * 2 + 1, none⟩ = some (.int .i64 (A i)) := by
  obtain ⟨a0, len0, cap0, rfl⟩ := okWide_slice Try.underlying32 hv
  obtain ⟨n, t0⟩ := h
  rcases open_slice_pairs Try.underlying32 Try.underlying35 cellsDeed rfl rfl cellsInt cellsInt t0 with ⟨hc, hx⟩ | ⟨a, len, cap, m, k, V0, V1, D0, D1, P0, P1, hc, _, hl, hm, hmm, hx, hall⟩
  · have e : Value.slice a0 len0 cap0 = .slice none 0 0 := List.head_eq_of_cons_eq (show [Value.slice a0 len0 cap0] = [.slice none 0 0] from hc)
    rw [e]
    exact ⟨none, 0, 0, 0, 0, fun _ => 0, fun _ => 0, rfl, fun h => by omega, fun _ => ⟨rfl, rfl⟩, Nat.le_refl _, by omega, fun i hi => by omega⟩
  · have e : Value.slice a0 len0 cap0 = .slice (some a) len cap := List.head_eq_of_cons_eq (show [Value.slice a0 len0 cap0] = [.slice (some a) len cap] from hc)
    rw [e]
    simp only [if_true] at hmm
    subst hmm
    refine ⟨some a, len, m, a.block, a.off, fun i => intOf (V0 i), fun i => intOf (V1 i), rfl, ?_, (fun h => by cases h), hl, hm, ?_⟩
    · intro h0
      have := (hall 0 (by omega)).1
      have hs := spot_none this
      have ha : a.spot = none := by simpa [Addr.add] using hs
      obtain ⟨b, o, s⟩ := a
      simp only at ha
      subst ha
      rfl
    · intro i hi
      obtain ⟨h1, h2, h3, h4⟩ := hall i (by omega)
      have s0 := (hall 0 (by omega)).1
      have ha : a.spot = none := by simpa [Addr.add] using spot_none s0
      obtain ⟨b, o, s⟩ := a
      simp only at ha
      subst ha
      obtain ⟨n0, e0, _, _⟩ := DataW.trod_int Try.underlying3 h3
      obtain ⟨n1, e1, _, _⟩ := DataW.trod_int Try.underlying3 h4
      have e0' : V0 i = .int .i64 n0 := by simpa using e0
      have e1' : V1 i = .int .i64 n1 := by simpa using e1
      rw [e0', Addr.add_lit] at h1
      rw [e1', Addr.add_lit] at h2
      show W.cell? ⟨b, o + i * 2, none⟩ = some (.int .i64 (intOf (V0 i))) ∧ W.cell? ⟨b, o + i * 2 + 1, none⟩ = some (.int .i64 (intOf (V1 i)))
      rw [e0', e1']
      exact ⟨h1, h2⟩
end Go.Proofs.Ytimjhjlgnoiimaa
