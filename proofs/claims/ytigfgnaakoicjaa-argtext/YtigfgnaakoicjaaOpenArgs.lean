
/- Texts, numbers and rows of them that came in, as the walks want them; no conditions. -/
import Derived.Test.YtigfgnaakoicjaaSdG
import Derived.ProofKit
import Derived.OpenShut
import Derived.Carry
import Derived.Deep.SlicePairs
namespace Go.Proofs.Ytigfgnaakoicjaa
open Go.ChangeShapes Go.WideShapes Go.ChangeAt Go.RowKit Go.Deep

theorem cellsInt : Try.prog.cellsOf 3 = 1 := by kernel_rfl
theorem cellsStr : Try.prog.cellsOf 9 = 1 := by kernel_rfl
theorem laidOut : laidOutB Try.prog = true := by kernel_rfl

theorem spot_none {w : World} {a : Addr} {v : Value} (h : w.cell? a = some v) : a.spot = none := by
  cases hs : a.spot with
  | none => rfl
  | some s =>
    unfold World.cell? at h
    rw [hs] at h
    split at h <;> simp at h

section
variable {H : Type} {enc : TypeId × Value → H} {W : World} {base : Nat} {v : Value} {d : DataW H} {p : List MemPlace}

theorem form_string (hv : Value.okWide Try.prog W .any base 9 v) (_h : DataW.Trod enc Try.prog W 0 (fun _ => true) true 9 v d p) : ∃ s : ByteArray, v = .string s := okWide_string Try.underlying9 hv
theorem form_bool (hv : Value.okWide Try.prog W .any base 4 v) (_h : DataW.Trod enc Try.prog W 0 (fun _ => true) true 4 v d p) : ∃ b : Bool, v = .bool b := okWide_bool Try.underlying4 hv
theorem form_int (hv : Value.okWide Try.prog W .any base 3 v) (_h : DataW.Trod enc Try.prog W 0 (fun _ => true) true 3 v d p) : ∃ n : Int, v = .int .i64 n := okWide_int Try.underlying3 hv
theorem form_byte (hv : Value.okWide Try.prog W .any base 5 v) (h : DataW.Trod enc Try.prog W 0 (fun _ => true) true 5 v d p) : ∃ n : Int, v = .int .u8 n ∧ 0 ≤ n ∧ n < 256 := by
  obtain ⟨n, rfl, -, -, hw⟩ := open_int Try.underlying5 hv h
  refine ⟨n, rfl, ?_⟩
  simp [Lit.wf, IntKind.min, IntKind.max, IntKind.signed, IntKind.bits] at hw
  omega

theorem open_one {α : Type} [Inhabited α] (f : α → Value) {t e : TypeId} (ht : Try.prog.underlying t = some (.slice e)) (hce : Try.prog.cellsOf e = 1)
    (hf : ∀ k cs (x : DataW H × List MemPlace), DataW.trod enc Try.prog W 0 (fun _ => true) true k e cs = some x → ∃ a, cs = [f a])
    (hv : Value.okWide Try.prog W .any base t v) (h : DataW.Trod enc Try.prog W 0 (fun _ => true) true t v d p) :
    ∃ (ao : Option Addr) (len cap b off : Nat) (L : Nat → α), v = .slice ao len cap ∧ (0 < len → ao = some ⟨b, off, none⟩) ∧ len ≤ cap ∧ cap ≤ 9223372036854775807 ∧
      ∀ i, i < len → W.cell? ⟨b, off + i, none⟩ = some (f (L i)) := by
  obtain ⟨a0, len0, cap0, rfl⟩ := okWide_slice ht hv
  obtain ⟨n, t0⟩ := h
  rcases open_slice ht t0 with ⟨hc, hx⟩ | ⟨a, len, cap, m, k, D, Pl, hc, _, hl, hm, hmm, hx, hall⟩
  · have e : Value.slice a0 len0 cap0 = .slice none 0 0 := List.head_eq_of_cons_eq (show [Value.slice a0 len0 cap0] = [.slice none 0 0] from hc)
    rw [e]
    exact ⟨none, 0, 0, 0, 0, fun _ => default, rfl, fun h => by omega, Nat.le_refl _, by omega, fun i hi => by omega⟩
  · have e : Value.slice a0 len0 cap0 = .slice (some a) len cap := List.head_eq_of_cons_eq (show [Value.slice a0 len0 cap0] = [.slice (some a) len cap] from hc)
    rw [e]
    simp only [if_true] at hmm
    subst hmm
    have each : ∀ i, i < len → ∃ q : α, W.cell? (a.add i) = some (f q) := by
      intro i hi
      obtain ⟨cs', h1, h2⟩ := hall i (by omega)
      rw [hce] at h1
      obtain ⟨_, hlen, hcell⟩ := World.cells?_some h1
      obtain ⟨n0, e0⟩ := hf _ _ _ h2
      subst e0
      have c0 := hcell 0 (by simp)
      rw [add_add] at c0
      exact ⟨n0, by simpa using c0⟩
    obtain ⟨q, hq⟩ := choose_lt each
    refine ⟨some a, len, m, a.block, a.off, q, rfl, ?_, hl, hm, ?_⟩
    · intro h0
      have hs := spot_none (hq 0 (by omega))
      have ha : a.spot = none := by simpa [Addr.add] using hs
      obtain ⟨b, o, s⟩ := a
      simp only at ha
      subst ha
      rfl
    · intro i hi
      have h1 := hq i hi
      have ha : a.spot = none := by simpa [Addr.add] using spot_none (hq 0 (by omega))
      obtain ⟨b, o, s⟩ := a
      simp only at ha
      subst ha
      rw [Addr.add_lit] at h1
      exact h1

theorem open_ints (hv : Value.okWide Try.prog W .any base 73 v) (h : DataW.Trod enc Try.prog W 0 (fun _ => true) true 73 v d p) :
    ∃ (ao : Option Addr) (len cap b off : Nat) (L : Nat → Int), v = .slice ao len cap ∧ (0 < len → ao = some ⟨b, off, none⟩) ∧ len ≤ cap ∧ cap ≤ 9223372036854775807 ∧ ∀ i, i < len → W.cell? ⟨b, off + i, none⟩ = some (.int .i64 (L i)) :=
  open_one (fun n : Int => .int .i64 n) Try.underlying73 cellsInt (fun _ _ _ h => by obtain ⟨n, hn, _⟩ := DataW.trod_int Try.underlying3 h; exact ⟨n, hn⟩) hv h
theorem open_strs (hv : Value.okWide Try.prog W .any base 35 v) (h : DataW.Trod enc Try.prog W 0 (fun _ => true) true 35 v d p) :
    ∃ (ao : Option Addr) (len cap b off : Nat) (L : Nat → ByteArray), v = .slice ao len cap ∧ (0 < len → ao = some ⟨b, off, none⟩) ∧ len ≤ cap ∧ cap ≤ 9223372036854775807 ∧ ∀ i, i < len → W.cell? ⟨b, off + i, none⟩ = some (.string (L i)) :=
  haveI : Inhabited ByteArray := ⟨⟨#[]⟩⟩
  open_one (fun s : ByteArray => .string s) Try.underlying35 cellsStr (fun _ _ _ h => by obtain ⟨s, hs, _⟩ := DataW.trod_string Try.underlying9 h; exact ⟨s, hs⟩) hv h
end
end Go.Proofs.Ytigfgnaakoicjaa
