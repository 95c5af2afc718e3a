/- A slice of bools that came in, as the walks want it; no conditions. -/
import Derived.Test.YtehifngelkenaaaOpenArgs
namespace Go.Proofs.Ytehifngelkenaaa
open Go.ChangeShapes Go.WideShapes Go.ChangeAt Go.RowKit Go.Deep

theorem open_bools {H : Type} {enc : TypeId × Value → H} {W : World} {base : Nat} {v : Value} {d : DataW H} {p : List MemPlace} (hv : Value.okWide Try.prog W .any base 55 v) (h : DataW.Trod enc Try.prog W 0 (fun _ => true) true 55 v d p) :
    ∃ (ao : Option Addr) (len cap b off : Nat) (L : Nat → Bool), v = .slice ao len cap ∧ (0 < len → ao = some ⟨b, off, none⟩) ∧ len ≤ cap ∧ cap ≤ 9223372036854775807 ∧
      ∀ i, i < len → W.cell? ⟨b, off + i, none⟩ = some (.bool (L i)) := by
  obtain ⟨a0, len0, cap0, rfl⟩ := okWide_slice Try.underlying55 hv
  obtain ⟨n, t0⟩ := h
  rcases open_slice Try.underlying55 t0 with ⟨hc, hx⟩ | ⟨a, len, cap, m, k, D, Pl, hc, _, hl, hm, hmm, hx, hall⟩
  · have e : Value.slice a0 len0 cap0 = .slice none 0 0 := List.head_eq_of_cons_eq (show [Value.slice a0 len0 cap0] = [.slice none 0 0] from hc)
    rw [e]
    exact ⟨none, 0, 0, 0, 0, fun _ => false, rfl, fun h => by omega, Nat.le_refl _, by omega, fun i hi => by omega⟩
  · have e : Value.slice a0 len0 cap0 = .slice (some a) len cap := List.head_eq_of_cons_eq (show [Value.slice a0 len0 cap0] = [.slice (some a) len cap] from hc)
    rw [e]
    simp only [if_true] at hmm
    subst hmm
    have each : ∀ i, i < len → ∃ q : Bool, W.cell? (a.add i) = some (.bool q) := by
      intro i hi
      obtain ⟨cs', h1, h2⟩ := hall i (by omega)
      rw [cellsBool] at h1
      obtain ⟨_, hlen, hcell⟩ := World.cells?_some h1
      obtain ⟨n0, e0, _⟩ := DataW.trod_bool Try.underlying4 h2
      subst e0
      have c0 := hcell 0 (by simp)
      rw [add_add] at c0
      exact ⟨n0, by simpa using c0⟩
    obtain ⟨q, hq⟩ := choose_lt each
    refine ⟨some a, len, m, a.block, a.off, q, rfl, ?_, hl, hm, ?_⟩
    · intro h0
      have hs := spot_none (hq 0 (by omega))
      have ha : a.spot = none := by simpa [Addr.add] using hs
      obtain ⟨b, o, s⟩ := a
      simp only at ha
      subst ha
      rfl
    · intro i hi
      have h1 := hq i hi
      have ha : a.spot = none := by simpa [Addr.add] using spot_none (hq 0 (by omega))
      obtain ⟨b, o, s⟩ := a
      simp only at ha
      subst ha
      rw [Addr.add_lit] at h1
      exact h1
end Go.Proofs.Ytehifngelkenaaa
