/- A slice of asks, and one of bools, that came in, as the walks want them; no conditions. -/
import Derived.Test.YtehifngelkenaaaVals
import Derived.ProofKit
import Derived.OpenShut
import Derived.Carry
import Derived.Deep.SlicePairs
namespace Go.Proofs.Ytehifngelkenaaa
open Go.ChangeShapes Go.WideShapes Go.ChangeAt Go.RowKit Go.Deep

theorem cellsKey : Try.prog.cellsOf 25 = 2 := by kernel_rfl
theorem cellsInt : Try.prog.cellsOf 3 = 1 := by kernel_rfl
theorem cellsBool : Try.prog.cellsOf 4 = 1 := by kernel_rfl
theorem cellsStr : Try.prog.cellsOf 9 = 1 := by kernel_rfl
theorem cellsArr : Try.prog.cellsOf 27 = 16 := by kernel_rfl
theorem cellsVal : Try.prog.cellsOf 29 = 17 := by kernel_rfl
theorem cellsAsk : Try.prog.cellsOf 50 = 20 := by kernel_rfl
theorem laidOut : laidOutB Try.prog = true := by kernel_rfl

theorem spot_none {w : World} {a : Addr} {v : Value} (h : w.cell? a = some v) : a.spot = none := by
  cases hs : a.spot with
  | none => rfl
  | some s =>
    unfold World.cell? at h
    rw [hs] at h
    split at h <;> simp at h

section
variable {H : Type} {enc : TypeId × Value → H} {W : World} {base : Nat} {sp : Nat → Bool} {held : Bool} {fuel : Nat}

theorem get_some {α : Type} {l : List α} {n i : Nat} (h : l.length = n) (hi : i < n) : ∃ a, l[i]? = some a := ⟨l[i], List.getElem?_eq_getElem (by omega)⟩

theorem trod_val {cs : List Value} {x : DataW H × List MemPlace} (h : DataW.trod enc Try.prog W base sp held fuel 29 cs = some x) : ∃ v : V, cs = vc v := by
  obtain ⟨xs, k, -, -, hl, hxl, hf⟩ := DataW.trod_struct Try.underlying29 h
  rw [cellsVal] at hl
  have g0 : DataW.trod enc Try.prog W base sp held k 27 ((cs.drop 0).take (Try.prog.cellsOf 27)) = xs[0]? := hf 0 _ rfl
  have g1 : DataW.trod enc Try.prog W base sp held k 9 ((cs.drop 16).take (Try.prog.cellsOf 9)) = xs[1]? := hf 1 _ rfl
  rw [cellsArr] at g0
  rw [cellsStr] at g1
  obtain ⟨y0, e0⟩ := get_some (i := 0) hxl (by decide)
  obtain ⟨y1, e1⟩ := get_some (i := 1) hxl (by decide)
  rw [e0] at g0
  rw [e1] at g1
  obtain ⟨ys, m, -, -, -, hyl, hy⟩ := DataW.trod_array Try.underlying27 g0
  obtain ⟨s, hs, -, -⟩ := DataW.trod_string Try.underlying9 g1
  have each : ∀ i, i < 16 → ∃ n : Int, cs[i]? = some (.int .i64 n) := by
    intro i hi
    have gi := hy i hi
    rw [cellsInt] at gi
    obtain ⟨z, ez⟩ := get_some (i := i) hyl hi
    rw [ez] at gi
    obtain ⟨n, en, -, -⟩ := DataW.trod_int Try.underlying3 gi
    refine ⟨n, ?_⟩
    have : (((List.take 16 (List.drop 0 cs)).drop (i * 1)).take 1)[0]? = some (.int .i64 n) := by rw [en]; rfl
    rw [List.getElem?_take, if_pos (by omega), List.getElem?_drop, List.getElem?_take, if_pos (by omega), List.getElem?_drop] at this
    rw [← this]
    congr 1; omega
  have hsx : cs[16]? = some (.string s) := by
    have : (List.take 1 (List.drop 16 cs))[0]? = some (.string s) := by rw [hs]; rfl
    rw [List.getElem?_take, if_pos (by omega), List.getElem?_drop] at this
    exact this
  obtain ⟨n, hn⟩ := choose_lt each
  refine ⟨⟨n 0, n 1, n 2, n 3, n 4, n 5, n 6, n 7, n 8, n 9, n 10, n 11, n 12, n 13, n 14, n 15, s⟩, ?_⟩
  apply List.ext_getElem?
  intro i
  rcases Nat.lt_or_ge i 16 with hi | hi
  · rw [hn i hi]
    rcases i with _ | _ | _ | _ | _ | _ | _ | _ | _ | _ | _ | _ | _ | _ | _ | _ | i <;> first | rfl | omega
  · rcases Nat.eq_or_lt_of_le hi with rfl | hi
    · rw [hsx]; rfl
    · rw [List.getElem?_eq_none (by omega), List.getElem?_eq_none (by rw [vc_length]; omega)]

theorem trod_key {cs : List Value} {x : DataW H × List MemPlace} (h : DataW.trod enc Try.prog W base sp held fuel 25 cs = some x) : ∃ k : Int × Int, cs = [.int .i64 k.1, .int .i64 k.2] := by
  obtain ⟨xs, k, -, -, hl, hxl, hf⟩ := DataW.trod_struct Try.underlying25 h
  rw [cellsKey] at hl
  have g0 : DataW.trod enc Try.prog W base sp held k 3 ((cs.drop 0).take (Try.prog.cellsOf 3)) = xs[0]? := hf 0 _ rfl
  have g1 : DataW.trod enc Try.prog W base sp held k 3 ((cs.drop 1).take (Try.prog.cellsOf 3)) = xs[1]? := hf 1 _ rfl
  rw [cellsInt] at g0 g1
  obtain ⟨y0, e0⟩ := get_some (i := 0) hxl (by decide)
  obtain ⟨y1, e1⟩ := get_some (i := 1) hxl (by decide)
  rw [e0] at g0
  rw [e1] at g1
  match cs, hl with
  | [a, b], _ =>
    obtain ⟨n0, q0, _, _⟩ := DataW.trod_int Try.underlying3 g0
    obtain ⟨n1, q1, _, _⟩ := DataW.trod_int Try.underlying3 g1
    simp at q0 q1
    exact ⟨(n0, n1), by rw [q0, q1]⟩

theorem trod_ask {cs : List Value} {x : DataW H × List MemPlace} (h : DataW.trod enc Try.prog W base sp held fuel 50 cs = some x) : ∃ t : Int × (Int × Int) × V, cs = ac t := by
  obtain ⟨xs, k, -, -, hl, hxl, hf⟩ := DataW.trod_struct Try.underlying50 h
  rw [cellsAsk] at hl
  have g0 : DataW.trod enc Try.prog W base sp held k 3 ((cs.drop 0).take (Try.prog.cellsOf 3)) = xs[0]? := hf 0 _ rfl
  have g1 : DataW.trod enc Try.prog W base sp held k 25 ((cs.drop 1).take (Try.prog.cellsOf 25)) = xs[1]? := hf 1 _ rfl
  have g2 : DataW.trod enc Try.prog W base sp held k 29 ((cs.drop 3).take (Try.prog.cellsOf 29)) = xs[2]? := hf 2 _ rfl
  rw [cellsInt] at g0
  rw [cellsKey] at g1
  rw [cellsVal] at g2
  obtain ⟨y0, e0⟩ := get_some (i := 0) hxl (by decide)
  obtain ⟨y1, e1⟩ := get_some (i := 1) hxl (by decide)
  obtain ⟨y2, e2⟩ := get_some (i := 2) hxl (by decide)
  rw [e0] at g0
  rw [e1] at g1
  rw [e2] at g2
  obtain ⟨n0, q0, _, _⟩ := DataW.trod_int Try.underlying3 g0
  obtain ⟨kk, q1⟩ := trod_key g1
  obtain ⟨v, q2⟩ := trod_val g2
  match cs, hl with
  | a :: b :: c :: r, hl =>
    simp at q0 q1 q2
    have hr : r.take 17 = r := List.take_of_length_le (by simp at hl; omega)
    rw [hr] at q2
    exact ⟨(n0, kk, v), by rw [q0, q1.1, q1.2, q2]; rfl⟩
end

abbrev Q3 := Int × (Int × Int) × V

theorem open_asks {H : Type} {enc : TypeId × Value → H} {W : World} {base : Nat} {v : Value} {d : DataW H} {p : List MemPlace} (hv : Value.okWide Try.prog W .any base 44 v) (h : DataW.Trod enc Try.prog W 0 (fun _ => true) true 44 v d p) :
    ∃ (ao : Option Addr) (len cap b off : Nat) (Q : Nat → Q3), v = .slice ao len cap ∧ (0 < len → ao = some ⟨b, off, none⟩) ∧ len ≤ cap ∧ cap ≤ 9223372036854775807 ∧
      (∀ i, i < len → W.rangeAt b (off + i * 20) (ac (Q i))) := by
  obtain ⟨a0, len0, cap0, rfl⟩ := okWide_slice Try.underlying44 hv
  obtain ⟨n, t0⟩ := h
  rcases open_slice Try.underlying44 t0 with ⟨hc, hx⟩ | ⟨a, len, cap, m, k, D, Pl, hc, _, hl, hm, hmm, hx, hall⟩
  · have e : Value.slice a0 len0 cap0 = .slice none 0 0 := List.head_eq_of_cons_eq (show [Value.slice a0 len0 cap0] = [.slice none 0 0] from hc)
    rw [e]
    exact ⟨none, 0, 0, 0, 0, fun _ => (0, (0, 0), zeroV), rfl, fun h => by omega, Nat.le_refl _, by omega, fun i hi => by omega⟩
  · have e : Value.slice a0 len0 cap0 = .slice (some a) len cap := List.head_eq_of_cons_eq (show [Value.slice a0 len0 cap0] = [.slice (some a) len cap] from hc)
    rw [e]
    simp only [if_true] at hmm
    subst hmm
    have each : ∀ i, i < len → ∃ q : Q3, ∀ j u, (ac q)[j]? = some u → W.cell? (a.add (i * 20 + j)) = some u := by
      intro i hi
      obtain ⟨cs', h1, h2⟩ := hall i (by omega)
      rw [cellsAsk] at h1
      obtain ⟨_, hlen, hcell⟩ := World.cells?_some h1
      obtain ⟨t, rfl⟩ := trod_ask h2
      refine ⟨t, fun j u hu => ?_⟩
      have hj : j < 20 := by have := (List.getElem?_eq_some_iff.1 hu).1; rw [ac_length] at this; exact this
      have := hcell j (by omega)
      rw [add_add] at this
      rw [this]
      simpa using hu
    have : Inhabited Q3 := ⟨(0, (0, 0), zeroV)⟩
    obtain ⟨q, hq⟩ := choose_lt each
    have ha : 0 < len → a.spot = none := by
      intro h0
      have := hq 0 h0 0 _ rfl
      have hs := spot_none this
      simpa [Addr.add] using hs
    refine ⟨some a, len, m, a.block, a.off, q, rfl, ?_, hl, hm, ?_⟩
    · intro h0
      have := ha h0
      obtain ⟨b, o, s⟩ := a
      simp only at this
      subst this
      rfl
    · intro i hi j u hu
      have h1 := hq i hi j u hu
      have := ha (by omega)
      obtain ⟨b, o, s⟩ := a
      simp only at this
      subst this
      rw [Addr.add_lit] at h1
      rw [show o + i * 20 + j = o + (i * 20 + j) by omega]
      exact h1
end Go.Proofs.Ytehifngelkenaaa
