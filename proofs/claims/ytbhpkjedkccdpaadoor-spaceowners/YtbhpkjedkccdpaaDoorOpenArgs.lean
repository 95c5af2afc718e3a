
/- Numbers, rows of numbers, of asks and of writes that came in, as the walks want them; no conditions. -/
import Derived.Test.YtbhpkjedkccdpaaDoorSgP
import Derived.ProofKit
import Derived.OpenShut
import Derived.Carry
import Derived.Deep.SlicePairs
namespace Go.Proofs.YtbhpkjedkccdpaaDoor
open Go.ChangeShapes Go.WideShapes Go.ChangeAt Go.RowKit Go.Deep
set_option maxRecDepth 100000

theorem cellsKey : Tryd.prog.cellsOf 54 = 2 := by kernel_rfl
theorem cellsInt : Tryd.prog.cellsOf 3 = 1 := by kernel_rfl
theorem cellsStr : Tryd.prog.cellsOf 9 = 1 := by kernel_rfl
theorem cellsArr : Tryd.prog.cellsOf 49 = 16 := by kernel_rfl
theorem cellsVal : Tryd.prog.cellsOf 51 = 17 := by kernel_rfl
theorem cellsAsk : Tryd.prog.cellsOf 43 = 3 := by kernel_rfl
theorem cellsWrite : Tryd.prog.cellsOf 62 = 19 := by kernel_rfl
theorem laidOut : laidOutB Tryd.prog = true := by kernel_rfl

theorem spot_none {w : World} {a : Addr} {v : Value} (h : w.cell? a = some v) : a.spot = none := by
  cases hs : a.spot with
  | none => rfl
  | some s =>
    unfold World.cell? at h
    rw [hs] at h
    split at h <;> simp at h

section
variable {H : Type} {enc : TypeId × Value → H} {W : World} {base : Nat} {sp : Nat → Bool} {held : Bool} {fuel : Nat}

theorem get_some {α : Type} {l : List α} {n i : Nat} (h : l.length = n) (hi : i < n) : ∃ a, l[i]? = some a := ⟨l[i], List.getElem?_eq_getElem (by omega)⟩

theorem trod_val {cs : List Value} {x : DataW H × List MemPlace} (h : DataW.trod enc Tryd.prog W base sp held fuel 51 cs = some x) : ∃ v : V, cs = vc v := by
  obtain ⟨xs, k, -, -, hl, hxl, hf⟩ := DataW.trod_struct Tryd.underlying51 h
  rw [cellsVal] at hl
  have g0 : DataW.trod enc Tryd.prog W base sp held k 49 ((cs.drop 0).take (Tryd.prog.cellsOf 49)) = xs[0]? := hf 0 _ rfl
  have g1 : DataW.trod enc Tryd.prog W base sp held k 9 ((cs.drop 16).take (Tryd.prog.cellsOf 9)) = xs[1]? := hf 1 _ rfl
  rw [cellsArr] at g0
  rw [cellsStr] at g1
  obtain ⟨y0, e0⟩ := get_some (i := 0) hxl (by decide)
  obtain ⟨y1, e1⟩ := get_some (i := 1) hxl (by decide)
  rw [e0] at g0
  rw [e1] at g1
  obtain ⟨ys, m, -, -, -, hyl, hy⟩ := DataW.trod_array Tryd.underlying49 g0
  obtain ⟨s, hs, -, -⟩ := DataW.trod_string Tryd.underlying9 g1
  have each : ∀ i, i < 16 → ∃ n : Int, cs[i]? = some (.int .i64 n) := by
    intro i hi
    have gi := hy i hi
    rw [cellsInt] at gi
    obtain ⟨z, ez⟩ := get_some (i := i) hyl hi
    rw [ez] at gi
    obtain ⟨n, en, -, -⟩ := DataW.trod_int Tryd.underlying3 gi
    refine ⟨n, ?_⟩
    have : (((List.take 16 (List.drop 0 cs)).drop (i * 1)).take 1)[0]? = some (.int .i64 n) := by rw [en]; rfl
    rw [List.getElem?_take, if_pos (by omega), List.getElem?_drop, List.getElem?_take, if_pos (by omega), List.getElem?_drop] at this
    rw [← this]
    congr 1; omega
  have hsx : cs[16]? = some (.string s) := by
    have : (List.take 1 (List.drop 16 cs))[0]? = some (.string s) := by rw [hs]; rfl
    rw [List.getElem?_take, if_pos (by omega), List.getElem?_drop] at this
    exact this
  obtain ⟨n, hn⟩ := choose_lt each
  refine ⟨⟨n 0, n 1, n 2, n 3, n 4, n 5, n 6, n 7, n 8, n 9, n 10, n 11, n 12, n 13, n 14, n 15, s⟩, ?_⟩
  apply List.ext_getElem?
  intro i
  rcases Nat.lt_or_ge i 16 with hi | hi
  · rw [hn i hi]
    rcases i with _ | _ | _ | _ | _ | _ | _ | _ | _ | _ | _ | _ | _ | _ | _ | _ | i <;> first | rfl | omega
  · rcases Nat.eq_or_lt_of_le hi with rfl | hi
    · rw [hsx]; rfl
    · rw [List.getElem?_eq_none (by omega), List.getElem?_eq_none (by rw [vc_length]; omega)]

theorem trod_key {cs : List Value} {x : DataW H × List MemPlace} (h : DataW.trod enc Tryd.prog W base sp held fuel 54 cs = some x) : ∃ k : Int × Int, cs = [.int .i64 k.1, .int .i64 k.2] := by
  obtain ⟨xs, k, -, -, hl, hxl, hf⟩ := DataW.trod_struct Tryd.underlying54 h
  rw [cellsKey] at hl
  have g0 : DataW.trod enc Tryd.prog W base sp held k 3 ((cs.drop 0).take (Tryd.prog.cellsOf 3)) = xs[0]? := hf 0 _ rfl
  have g1 : DataW.trod enc Tryd.prog W base sp held k 3 ((cs.drop 1).take (Tryd.prog.cellsOf 3)) = xs[1]? := hf 1 _ rfl
  rw [cellsInt] at g0 g1
  obtain ⟨y0, e0⟩ := get_some (i := 0) hxl (by decide)
  obtain ⟨y1, e1⟩ := get_some (i := 1) hxl (by decide)
  rw [e0] at g0
  rw [e1] at g1
  match cs, hl with
  | [a, b], _ =>
    obtain ⟨n0, q0, _, _⟩ := DataW.trod_int Tryd.underlying3 g0
    obtain ⟨n1, q1, _, _⟩ := DataW.trod_int Tryd.underlying3 g1
    simp at q0 q1
    exact ⟨(n0, n1), by rw [q0, q1]⟩

theorem trod_write {cs : List Value} {x : DataW H × List MemPlace} (h : DataW.trod enc Tryd.prog W base sp held fuel 62 cs = some x) : ∃ t : K2 × V, cs = wc t := by
  obtain ⟨xs, k, -, -, hl, hxl, hf⟩ := DataW.trod_struct Tryd.underlying62 h
  rw [cellsWrite] at hl
  have g1 : DataW.trod enc Tryd.prog W base sp held k 54 ((cs.drop 0).take (Tryd.prog.cellsOf 54)) = xs[0]? := hf 0 _ rfl
  have g2 : DataW.trod enc Tryd.prog W base sp held k 51 ((cs.drop 2).take (Tryd.prog.cellsOf 51)) = xs[1]? := hf 1 _ rfl
  rw [cellsKey] at g1
  rw [cellsVal] at g2
  obtain ⟨y1, e1⟩ := get_some (i := 0) hxl (by decide)
  obtain ⟨y2, e2⟩ := get_some (i := 1) hxl (by decide)
  rw [e1] at g1
  rw [e2] at g2
  obtain ⟨kk, q1⟩ := trod_key g1
  obtain ⟨v, q2⟩ := trod_val g2
  match cs, hl with
  | b :: c :: r, hl =>
    simp at q1 q2
    have hr : r.take 17 = r := List.take_of_length_le (by simp at hl; omega)
    rw [hr] at q2
    exact ⟨(kk, v), by rw [q1.1, q1.2, q2]; rfl⟩

/-- An ask whose number is one of Go's. -/
abbrev QR : Type := { q : QB // q.n ≤ 9223372036854775807 }
def qc (q : QR) : List Value := [.int .i64 q.1.k, .int .i64 q.1.p, .int .i64 q.1.n]
theorem trod_ask {cs : List Value} {x : DataW H × List MemPlace} (h : DataW.trod enc Tryd.prog W base sp held fuel 43 cs = some x) : ∃ q : QR, cs = qc q := by
  obtain ⟨xs, k, -, -, hl, hxl, hf⟩ := DataW.trod_struct Tryd.underlying43 h
  rw [cellsAsk] at hl
  match xs, hxl, cs, hl with
  | [y0, y1, y2], _, [v0, v1, v2], _ =>
    have g0 := hf 0 _ rfl
    have g1 := hf 1 _ rfl
    have g2 := hf 2 _ rfl
    simp [cellsInt] at g0 g1 g2
    obtain ⟨n0, e0, _, _⟩ := DataW.trod_int Tryd.underlying3 g0
    obtain ⟨n1, e1, _, _⟩ := DataW.trod_int Tryd.underlying3 g1
    obtain ⟨n2, e2, _, hw⟩ := DataW.trod_int Tryd.underlying3 g2
    simp at e0 e1 e2
    subst e0 e1 e2
    have hr : n2 ≤ 9223372036854775807 := by
      simp [Lit.wf] at hw
      omega
    exact ⟨⟨⟨n0, n1, n2⟩, hr⟩, rfl⟩
end

theorem open_rows {H : Type} {enc : TypeId × Value → H} {W : World} {base : Nat} {v : Value} {d : DataW H} {p : List MemPlace} {α : Type} [Inhabited α] (cs : α → List Value) (n : Nat) (hn : ∀ a, (cs a).length = n) (hp : 0 < n) {t e : TypeId} (ht : Tryd.prog.underlying t = some (.slice e)) (hce : Tryd.prog.cellsOf e = n)
    (hf : ∀ k l (x : DataW H × List MemPlace), DataW.trod enc Tryd.prog W 0 (fun _ => true) true k e l = some x → ∃ a, l = cs a)
    (hv : Value.okWide Tryd.prog W .any base t v) (h : DataW.Trod enc Tryd.prog W 0 (fun _ => true) true t v d p) :
    ∃ (ao : Option Addr) (len cap b off : Nat) (Q : Nat → α), v = .slice ao len cap ∧ (0 < len → ao = some ⟨b, off, none⟩) ∧ len ≤ cap ∧ cap ≤ 9223372036854775807 ∧
      (∀ i, i < len → W.rangeAt b (off + i * n) (cs (Q i))) := by
  obtain ⟨a0, len0, cap0, rfl⟩ := okWide_slice ht hv
  obtain ⟨fu, t0⟩ := h
  rcases open_slice ht t0 with ⟨hc, hx⟩ | ⟨a, len, cap, m, k, D, Pl, hc, _, hl, hm, hmm, hx, hall⟩
  · have e : Value.slice a0 len0 cap0 = .slice none 0 0 := List.head_eq_of_cons_eq (show [Value.slice a0 len0 cap0] = [.slice none 0 0] from hc)
    rw [e]
    exact ⟨none, 0, 0, 0, 0, fun _ => default, rfl, fun h => by omega, Nat.le_refl _, by omega, fun i hi => by omega⟩
  · have e : Value.slice a0 len0 cap0 = .slice (some a) len cap := List.head_eq_of_cons_eq (show [Value.slice a0 len0 cap0] = [.slice (some a) len cap] from hc)
    rw [e]
    simp only [if_true] at hmm
    subst hmm
    have each : ∀ i, i < len → ∃ q : α, ∀ j u, (cs q)[j]? = some u → W.cell? (a.add (i * n + j)) = some u := by
      intro i hi
      obtain ⟨cs', h1, h2⟩ := hall i (by omega)
      rw [hce] at h1
      obtain ⟨_, hlen, hcell⟩ := World.cells?_some h1
      obtain ⟨t, rfl⟩ := hf _ _ _ h2
      refine ⟨t, fun j u hu => ?_⟩
      have hj : j < n := by have := (List.getElem?_eq_some_iff.1 hu).1; rw [hn] at this; exact this
      have := hcell j (by omega)
      rw [add_add] at this
      rw [this]
      simpa using hu
    obtain ⟨q, hq⟩ := choose_lt each
    have ha : 0 < len → a.spot = none := by
      intro h0
      have hv0 : (cs (q 0))[0]? = some ((cs (q 0))[0]'(by rw [hn]; exact hp)) := List.getElem?_eq_getElem _
      have := hq 0 h0 0 _ hv0
      have hs := spot_none this
      simpa [Addr.add] using hs
    refine ⟨some a, len, m, a.block, a.off, q, rfl, ?_, hl, hm, ?_⟩
    · intro h0
      have := ha h0
      obtain ⟨b, o, s⟩ := a
      simp only at this
      subst this
      rfl
    · intro i hi j u hu
      have h1 := hq i hi j u hu
      have := ha (by omega)
      obtain ⟨b, o, s⟩ := a
      simp only at this
      subst this
      rw [Addr.add_lit] at h1
      rw [show o + i * n + j = o + (i * n + j) by omega]
      exact h1

section
variable {H : Type} {enc : TypeId × Value → H} {W : World} {base : Nat} {v : Value} {d : DataW H} {p : List MemPlace}
theorem form_int (hv : Value.okWide Tryd.prog W .any base 3 v) (_h : DataW.Trod enc Tryd.prog W 0 (fun _ => true) true 3 v d p) : ∃ n : Int, v = .int .i64 n := okWide_int Tryd.underlying3 hv

theorem open_writes (hv : Value.okWide Tryd.prog W .any base 39 v) (h : DataW.Trod enc Tryd.prog W 0 (fun _ => true) true 39 v d p) :
    ∃ (ao : Option Addr) (len cap b off : Nat) (Q : Nat → K2 × V), v = .slice ao len cap ∧ (0 < len → ao = some ⟨b, off, none⟩) ∧ len ≤ cap ∧ cap ≤ 9223372036854775807 ∧ (∀ i, i < len → W.rangeAt b (off + i * 19) (wc (Q i))) :=
  haveI : Inhabited (K2 × V) := ⟨((0, 0), zeroV)⟩
  open_rows wc 19 wc_length (by decide) Tryd.underlying39 cellsWrite (fun _ _ _ h => trod_write h) hv h

theorem open_asks (hv : Value.okWide Tryd.prog W .any base 40 v) (h : DataW.Trod enc Tryd.prog W 0 (fun _ => true) true 40 v d p) :
    ∃ (ao : Option Addr) (len cap b off : Nat) (Q : Nat → QB), v = .slice ao len cap ∧ (0 < len → ao = some ⟨b, off, none⟩) ∧ len ≤ cap ∧ cap ≤ 9223372036854775807 ∧ (∀ i, i < len → QBt W b (off + i * 3) (Q i)) := by
  haveI : Inhabited QR := ⟨⟨⟨0, 0, 0⟩, by decide⟩⟩
  obtain ⟨ao, len, cap, b, off, Q, e, h1, h2, h3, h4⟩ := open_rows qc 3 (fun _ => rfl) (by decide) Tryd.underlying40 cellsAsk (fun _ _ _ h => trod_ask h) hv h
  refine ⟨ao, len, cap, b, off, fun i => (Q i).1, e, h1, h2, h3, fun i hi => ?_⟩
  have hr := h4 i hi
  exact ⟨hr 0 _ rfl, hr 1 _ rfl, hr 2 _ rfl, (Q i).2⟩
end
end Go.Proofs.YtbhpkjedkccdpaaDoor
