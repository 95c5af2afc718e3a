/- A slice of asks, and one of numbers, that came in, as the walks want them; no conditions. -/
import Derived.Test.YtkmfeenooidbhaaAsks
import Derived.ProofKit
import Derived.OpenShut
import Derived.Carry
import Derived.Deep.SlicePairs
namespace Go.Proofs.Ytkmfeenooidbhaa
open Go.ChangeShapes Go.WideShapes Go.ChangeAt Go.RowKit Go.Deep

theorem cellsAsk : Try.prog.cellsOf 38 = 3 := by kernel_rfl
theorem cellsInt : Try.prog.cellsOf 3 = 1 := by kernel_rfl
theorem cellsBool : Try.prog.cellsOf 4 = 1 := by kernel_rfl
theorem laidOut : laidOutB Try.prog = true := by kernel_rfl

theorem spot_none {w : World} {a : Addr} {v : Value} (h : w.cell? a = some v) : a.spot = none := by
  cases hs : a.spot with
  | none => rfl
  | some s =>
    unfold World.cell? at h
    rw [hs] at h
    split at h <;> simp at h

theorem open_asks {H : Type} {enc : TypeId × Value → H} {W : World} {base : Nat} {v : Value} {d : DataW H} {p : List MemPlace} (hv : Value.okWide Try.prog W .any base 34 v) (h : DataW.Trod enc Try.prog W 0 (fun _ => true) true 34 v d p) :
    ∃ (ao : Option Addr) (len cap b off : Nat) (Q : Nat → Q3), v = .slice ao len cap ∧ (0 < len → ao = some ⟨b, off, none⟩) ∧ len ≤ cap ∧ cap ≤ 9223372036854775807 ∧
      (∀ i, i < len → W.cell? ⟨b, off + i * 3, none⟩ = some (.int .i64 (Q i).who) ∧ W.cell? ⟨b, off + i * 3 + 1, none⟩ = some (.int .i64 (Q i).r) ∧ W.cell? ⟨b, off + i * 3 + 2, none⟩ = some (.bool (Q i).b)) ∧
      ∀ i, i < len → (Lit.int .i64 (Q i).r).wf = true := by
  obtain ⟨a0, len0, cap0, rfl⟩ := okWide_slice Try.underlying34 hv
  obtain ⟨n, t0⟩ := h
  rcases open_slice Try.underlying34 t0 with ⟨hc, hx⟩ | ⟨a, len, cap, m, k, D, Pl, hc, _, hl, hm, hmm, hx, hall⟩
  · have e : Value.slice a0 len0 cap0 = .slice none 0 0 := List.head_eq_of_cons_eq (show [Value.slice a0 len0 cap0] = [.slice none 0 0] from hc)
    rw [e]
    exact ⟨none, 0, 0, 0, 0, fun _ => ⟨0, 0, false⟩, rfl, fun h => by omega, Nat.le_refl _, by omega, fun i hi => by omega, fun i hi => by omega⟩
  · have e : Value.slice a0 len0 cap0 = .slice (some a) len cap := List.head_eq_of_cons_eq (show [Value.slice a0 len0 cap0] = [.slice (some a) len cap] from hc)
    rw [e]
    simp only [if_true] at hmm
    subst hmm
    have each : ∀ i, i < len → ∃ q : Q3, (W.cell? (a.add (i * 3)) = some (.int .i64 q.who) ∧ W.cell? (a.add (i * 3 + 1)) = some (.int .i64 q.r) ∧ W.cell? (a.add (i * 3 + 2)) = some (.bool q.b)) ∧ (Lit.int .i64 q.r).wf = true := by
      intro i hi
      obtain ⟨cs', h1, h2⟩ := hall i (by omega)
      rw [cellsAsk] at h1
      obtain ⟨_, hlen, hcell⟩ := World.cells?_some h1
      obtain ⟨xs, k', hk, hxy, _, hxl, hf⟩ := DataW.trod_struct Try.underlying38 h2
      match xs, hxl, cs', hlen with
      | [y0, y1, y2], _, [v0, v1, v2], _ =>
        have g0 := hf 0 _ rfl
        have g1 := hf 1 _ rfl
        have g2 := hf 2 _ rfl
        simp [cellsInt, cellsBool] at g0 g1 g2
        obtain ⟨n0, e0, _, _⟩ := DataW.trod_int Try.underlying3 g0
        obtain ⟨n1, e1, _, w1⟩ := DataW.trod_int Try.underlying3 g1
        obtain ⟨n2, e2, _⟩ := DataW.trod_bool Try.underlying4 g2
        simp at e0 e1 e2
        subst e0 e1 e2
        have c0 := hcell 0 (by omega)
        have c1 := hcell 1 (by omega)
        have c2 := hcell 2 (by omega)
        rw [add_add] at c0 c1 c2
        exact ⟨⟨n0, n1, n2⟩, ⟨by simpa using c0, by simpa using c1, by simpa using c2⟩, w1⟩
    have : Inhabited Q3 := ⟨⟨0, 0, false⟩⟩
    obtain ⟨q, hq⟩ := choose_lt each
    refine ⟨some a, len, m, a.block, a.off, q, rfl, ?_, hl, hm, ?_, fun i hi => (hq i hi).2⟩
    · intro h0
      have := (hq 0 (by omega)).1.1
      have hs := spot_none this
      have ha : a.spot = none := by simpa [Addr.add] using hs
      obtain ⟨b, o, s⟩ := a
      simp only at ha
      subst ha
      rfl
    · intro i hi
      obtain ⟨h1, h2, h3⟩ := (hq i hi).1
      have s0 := (hq 0 (by omega)).1.1
      have ha : a.spot = none := by simpa [Addr.add] using spot_none s0
      obtain ⟨b, o, s⟩ := a
      simp only at ha
      subst ha
      rw [Addr.add_lit] at h1 h2 h3
      exact ⟨h1, h2, h3⟩

theorem open_ints {H : Type} {enc : TypeId × Value → H} {W : World} {base : Nat} {v : Value} {d : DataW H} {p : List MemPlace} (hv : Value.okWide Try.prog W .any base 30 v) (h : DataW.Trod enc Try.prog W 0 (fun _ => true) true 30 v d p) :
    ∃ (ao : Option Addr) (len cap b off : Nat) (L : Nat → Int), v = .slice ao len cap ∧ (0 < len → ao = some ⟨b, off, none⟩) ∧ len ≤ cap ∧ cap ≤ 9223372036854775807 ∧
      ∀ i, i < len → W.cell? ⟨b, off + i, none⟩ = some (.int .i64 (L i)) := by
  obtain ⟨a0, len0, cap0, rfl⟩ := okWide_slice Try.underlying30 hv
  obtain ⟨n, t0⟩ := h
  rcases open_slice Try.underlying30 t0 with ⟨hc, hx⟩ | ⟨a, len, cap, m, k, D, Pl, hc, _, hl, hm, hmm, hx, hall⟩
  · have e : Value.slice a0 len0 cap0 = .slice none 0 0 := List.head_eq_of_cons_eq (show [Value.slice a0 len0 cap0] = [.slice none 0 0] from hc)
    rw [e]
    exact ⟨none, 0, 0, 0, 0, fun _ => 0, rfl, fun h => by omega, Nat.le_refl _, by omega, fun i hi => by omega⟩
  · have e : Value.slice a0 len0 cap0 = .slice (some a) len cap := List.head_eq_of_cons_eq (show [Value.slice a0 len0 cap0] = [.slice (some a) len cap] from hc)
    rw [e]
    simp only [if_true] at hmm
    subst hmm
    have each : ∀ i, i < len → ∃ q : Int, W.cell? (a.add i) = some (.int .i64 q) := by
      intro i hi
      obtain ⟨cs', h1, h2⟩ := hall i (by omega)
      rw [cellsInt] at h1
      obtain ⟨_, hlen, hcell⟩ := World.cells?_some h1
      obtain ⟨n0, e0, _, _⟩ := DataW.trod_int Try.underlying3 h2
      subst e0
      have c0 := hcell 0 (by simp)
      rw [add_add] at c0
      exact ⟨n0, by simpa using c0⟩
    obtain ⟨q, hq⟩ := choose_lt each
    refine ⟨some a, len, m, a.block, a.off, q, rfl, ?_, hl, hm, ?_⟩
    · intro h0
      have hs := spot_none (hq 0 (by omega))
      have ha : a.spot = none := by simpa [Addr.add] using hs
      obtain ⟨b, o, s⟩ := a
      simp only at ha
      subst ha
      rfl
    · intro i hi
      have h1 := hq i hi
      have ha : a.spot = none := by simpa [Addr.add] using spot_none (hq 0 (by omega))
      obtain ⟨b, o, s⟩ := a
      simp only at ha
      subst ha
      rw [Addr.add_lit] at h1
      exact h1
end Go.Proofs.Ytkmfeenooidbhaa
