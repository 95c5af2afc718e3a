
/- Numbers, rows of numbers, of asks and of writes that came in, as the walks want them; no conditions. -/
import Derived.Test.YtiklclmpealllaaPrK
import Derived.ProofKit
import Derived.OpenShut
import Derived.Carry
import Derived.Deep.SlicePairs
namespace Go.Proofs.Ytiklclmpealllaa
open Go.ChangeShapes Go.WideShapes Go.ChangeAt Go.RowKit Go.Deep
set_option maxRecDepth 100000

theorem cellsKey : Try.prog.cellsOf 53 = 2 := by kernel_rfl
theorem cellsInt : Try.prog.cellsOf 3 = 1 := by kernel_rfl
theorem cellsBool : Try.prog.cellsOf 4 = 1 := by kernel_rfl
theorem cellsStr : Try.prog.cellsOf 9 = 1 := by kernel_rfl
theorem cellsArr : Try.prog.cellsOf 54 = 16 := by kernel_rfl
theorem cellsVal : Try.prog.cellsOf 56 = 17 := by kernel_rfl
theorem cellsAsk : Try.prog.cellsOf 43 = 4 := by kernel_rfl
theorem cellsWrite : Try.prog.cellsOf 58 = 19 := by kernel_rfl
theorem laidOut : laidOutB Try.prog = true := by kernel_rfl

theorem spot_none {w : World} {a : Addr} {v : Value} (h : w.cell? a = some v) : a.spot = none := by
  cases hs : a.spot with
  | none => rfl
  | some s =>
    unfold World.cell? at h
    rw [hs] at h
    split at h <;> simp at h

section
variable {H : Type} {enc : TypeId × Value → H} {W : World} {base : Nat} {sp : Nat → Bool} {held : Bool} {fuel : Nat}

theorem get_some {α : Type} {l : List α} {n i : Nat} (h : l.length = n) (hi : i < n) : ∃ a, l[i]? = some a := ⟨l[i], List.getElem?_eq_getElem (by omega)⟩

theorem trod_val {cs : List Value} {x : DataW H × List MemPlace} (h : DataW.trod enc Try.prog W base sp held fuel 56 cs = some x) : ∃ v : V, cs = vc v := by
  obtain ⟨xs, k, -, -, hl, hxl, hf⟩ := DataW.trod_struct Try.underlying56 h
  rw [cellsVal] at hl
  have g0 : DataW.trod enc Try.prog W base sp held k 54 ((cs.drop 0).take (Try.prog.cellsOf 54)) = xs[0]? := hf 0 _ rfl
  have g1 : DataW.trod enc Try.prog W base sp held k 9 ((cs.drop 16).take (Try.prog.cellsOf 9)) = xs[1]? := hf 1 _ rfl
  rw [cellsArr] at g0
  rw [cellsStr] at g1
  obtain ⟨y0, e0⟩ := get_some (i := 0) hxl (by decide)
  obtain ⟨y1, e1⟩ := get_some (i := 1) hxl (by decide)
  rw [e0] at g0
  rw [e1] at g1
  obtain ⟨ys, m, -, -, -, hyl, hy⟩ := DataW.trod_array Try.underlying54 g0
  obtain ⟨s, hs, -, -⟩ := DataW.trod_string Try.underlying9 g1
  have each : ∀ i, i < 16 → ∃ n : Int, cs[i]? = some (.int .i64 n) := by
    intro i hi
    have gi := hy i hi
    rw [cellsInt] at gi
    obtain ⟨z, ez⟩ := get_some (i := i) hyl hi
    rw [ez] at gi
    obtain ⟨n, en, -, -⟩ := DataW.trod_int Try.underlying3 gi
    refine ⟨n, ?_⟩
    have : (((List.take 16 (List.drop 0 cs)).drop (i * 1)).take 1)[0]? = some (.int .i64 n) := by rw [en]; rfl
    rw [List.getElem?_take, if_pos (by omega), List.getElem?_drop, List.getElem?_take, if_pos (by omega), List.getElem?_drop] at this
    rw [← this]
    congr 1; omega
  have hsx : cs[16]? = some (.string s) := by
    have : (List.take 1 (List.drop 16 cs))[0]? = some (.string s) := by rw [hs]; rfl
    rw [List.getElem?_take, if_pos (by omega), List.getElem?_drop] at this
    exact this
  obtain ⟨n, hn⟩ := choose_lt each
  refine ⟨⟨n 0, n 1, n 2, n 3, n 4, n 5, n 6, n 7, n 8, n 9, n 10, n 11, n 12, n 13, n 14, n 15, s⟩, ?_⟩
  apply List.ext_getElem?
  intro i
  rcases Nat.lt_or_ge i 16 with hi | hi
  · rw [hn i hi]
    rcases i with _ | _ | _ | _ | _ | _ | _ | _ | _ | _ | _ | _ | _ | _ | _ | _ | i <;> first | rfl | omega
  · rcases Nat.eq_or_lt_of_le hi with rfl | hi
    · rw [hsx]; rfl
    · rw [List.getElem?_eq_none (by omega), List.getElem?_eq_none (by rw [vc_length]; omega)]

theorem trod_key {cs : List Value} {x : DataW H × List MemPlace} (h : DataW.trod enc Try.prog W base sp held fuel 53 cs = some x) : ∃ k : Int × Int, cs = [.int .i64 k.1, .int .i64 k.2] := by
  obtain ⟨xs, k, -, -, hl, hxl, hf⟩ := DataW.trod_struct Try.underlying53 h
  rw [cellsKey] at hl
  have g0 : DataW.trod enc Try.prog W base sp held k 3 ((cs.drop 0).take (Try.prog.cellsOf 3)) = xs[0]? := hf 0 _ rfl
  have g1 : DataW.trod enc Try.prog W base sp held k 3 ((cs.drop 1).take (Try.prog.cellsOf 3)) = xs[1]? := hf 1 _ rfl
  rw [cellsInt] at g0 g1
  obtain ⟨y0, e0⟩ := get_some (i := 0) hxl (by decide)
  obtain ⟨y1, e1⟩ := get_some (i := 1) hxl (by decide)
  rw [e0] at g0
  rw [e1] at g1
  match cs, hl with
  | [a, b], _ =>
    obtain ⟨n0, q0, _, _⟩ := DataW.trod_int Try.underlying3 g0
    obtain ⟨n1, q1, _, _⟩ := DataW.trod_int Try.underlying3 g1
    simp at q0 q1
    exact ⟨(n0, n1), by rw [q0, q1]⟩

theorem trod_write {cs : List Value} {x : DataW H × List MemPlace} (h : DataW.trod enc Try.prog W base sp held fuel 58 cs = some x) : ∃ t : K2 × V, cs = wc t := by
  obtain ⟨xs, k, -, -, hl, hxl, hf⟩ := DataW.trod_struct Try.underlying58 h
  rw [cellsWrite] at hl
  have g1 : DataW.trod enc Try.prog W base sp held k 53 ((cs.drop 0).take (Try.prog.cellsOf 53)) = xs[0]? := hf 0 _ rfl
  have g2 : DataW.trod enc Try.prog W base sp held k 56 ((cs.drop 2).take (Try.prog.cellsOf 56)) = xs[1]? := hf 1 _ rfl
  rw [cellsKey] at g1
  rw [cellsVal] at g2
  obtain ⟨y1, e1⟩ := get_some (i := 0) hxl (by decide)
  obtain ⟨y2, e2⟩ := get_some (i := 1) hxl (by decide)
  rw [e1] at g1
  rw [e2] at g2
  obtain ⟨kk, q1⟩ := trod_key g1
  obtain ⟨v, q2⟩ := trod_val g2
  match cs, hl with
  | b :: c :: r, hl =>
    simp at q1 q2
    have hr : r.take 17 = r := List.take_of_length_le (by simp at hl; omega)
    rw [hr] at q2
    exact ⟨(kk, v), by rw [q1.1, q1.2, q2]; rfl⟩

/-- What an ask has. -/
structure QA where
  k : Int
  p : Int
  a : Int
  b : Int
def qc (q : QA) : List Value := [.int .i64 q.k, .int .i64 q.p, .int .i64 q.a, .int .i64 q.b]
def QAt (w : World) (b o : Nat) (q : QA) : Prop := w.cell? ⟨b, o, none⟩ = some (.int .i64 q.k) ∧ w.cell? ⟨b, o + 1, none⟩ = some (.int .i64 q.p) ∧ w.cell? ⟨b, o + 2, none⟩ = some (.int .i64 q.a) ∧ w.cell? ⟨b, o + 3, none⟩ = some (.int .i64 q.b)
theorem QAt.kept {X : Nat → Prop} {w w' : World} {b o : Nat} {q : QA} (h : QAt w b o q) (hk : Kept X w w') (hx : ¬ X b) : QAt w' b o q :=
  ⟨hk.cell h.1 hx, hk.cell h.2.1 hx, hk.cell h.2.2.1 hx, hk.cell h.2.2.2 hx⟩
theorem QAt.still {w w' : World} {b o : Nat} {q : QA} (h : QAt w b o q) (hk : Kept (fun _ => False) w w') : QAt w' b o q := h.kept hk (fun x => x)
theorem trod_ask {cs : List Value} {x : DataW H × List MemPlace} (h : DataW.trod enc Try.prog W base sp held fuel 43 cs = some x) : ∃ q : QA, cs = qc q := by
  obtain ⟨xs, k, -, -, hl, hxl, hf⟩ := DataW.trod_struct Try.underlying43 h
  rw [cellsAsk] at hl
  match xs, hxl, cs, hl with
  | [y0, y1, y2, y3], _, [v0, v1, v2, v3], _ =>
    have g0 := hf 0 _ rfl
    have g1 := hf 1 _ rfl
    have g2 := hf 2 _ rfl
    have g3 := hf 3 _ rfl
    simp [cellsInt] at g0 g1 g2 g3
    obtain ⟨n0, e0, _, _⟩ := DataW.trod_int Try.underlying3 g0
    obtain ⟨n1, e1, _, _⟩ := DataW.trod_int Try.underlying3 g1
    obtain ⟨n2, e2, _, _⟩ := DataW.trod_int Try.underlying3 g2
    obtain ⟨n3, e3, _, _⟩ := DataW.trod_int Try.underlying3 g3
    simp at e0 e1 e2 e3
    subst e0 e1 e2 e3
    exact ⟨⟨n0, n1, n2, n3⟩, rfl⟩
end

theorem open_rows {H : Type} {enc : TypeId × Value → H} {W : World} {base : Nat} {v : Value} {d : DataW H} {p : List MemPlace} {α : Type} [Inhabited α] (cs : α → List Value) (n : Nat) (hn : ∀ a, (cs a).length = n) (hp : 0 < n) {t e : TypeId} (ht : Try.prog.underlying t = some (.slice e)) (hce : Try.prog.cellsOf e = n)
    (hf : ∀ k l (x : DataW H × List MemPlace), DataW.trod enc Try.prog W 0 (fun _ => true) true k e l = some x → ∃ a, l = cs a)
    (hv : Value.okWide Try.prog W .any base t v) (h : DataW.Trod enc Try.prog W 0 (fun _ => true) true t v d p) :
    ∃ (ao : Option Addr) (len cap b off : Nat) (Q : Nat → α), v = .slice ao len cap ∧ (0 < len → ao = some ⟨b, off, none⟩) ∧ len ≤ cap ∧ cap ≤ 9223372036854775807 ∧
      (∀ i, i < len → W.rangeAt b (off + i * n) (cs (Q i))) := by
  obtain ⟨a0, len0, cap0, rfl⟩ := okWide_slice ht hv
  obtain ⟨fu, t0⟩ := h
  rcases open_slice ht t0 with ⟨hc, hx⟩ | ⟨a, len, cap, m, k, D, Pl, hc, _, hl, hm, hmm, hx, hall⟩
  · have e : Value.slice a0 len0 cap0 = .slice none 0 0 := List.head_eq_of_cons_eq (show [Value.slice a0 len0 cap0] = [.slice none 0 0] from hc)
    rw [e]
    exact ⟨none, 0, 0, 0, 0, fun _ => default, rfl, fun h => by omega, Nat.le_refl _, by omega, fun i hi => by omega⟩
  · have e : Value.slice a0 len0 cap0 = .slice (some a) len cap := List.head_eq_of_cons_eq (show [Value.slice a0 len0 cap0] = [.slice (some a) len cap] from hc)
    rw [e]
    simp only [if_true] at hmm
    subst hmm
    have each : ∀ i, i < len → ∃ q : α, ∀ j u, (cs q)[j]? = some u → W.cell? (a.add (i * n + j)) = some u := by
      intro i hi
      obtain ⟨cs', h1, h2⟩ := hall i (by omega)
      rw [hce] at h1
      obtain ⟨_, hlen, hcell⟩ := World.cells?_some h1
      obtain ⟨t, rfl⟩ := hf _ _ _ h2
      refine ⟨t, fun j u hu => ?_⟩
      have hj : j < n := by have := (List.getElem?_eq_some_iff.1 hu).1; rw [hn] at this; exact this
      have := hcell j (by omega)
      rw [add_add] at this
      rw [this]
      simpa using hu
    obtain ⟨q, hq⟩ := choose_lt each
    have ha : 0 < len → a.spot = none := by
      intro h0
      have hv0 : (cs (q 0))[0]? = some ((cs (q 0))[0]'(by rw [hn]; exact hp)) := List.getElem?_eq_getElem _
      have := hq 0 h0 0 _ hv0
      have hs := spot_none this
      simpa [Addr.add] using hs
    refine ⟨some a, len, m, a.block, a.off, q, rfl, ?_, hl, hm, ?_⟩
    · intro h0
      have := ha h0
      obtain ⟨b, o, s⟩ := a
      simp only at this
      subst this
      rfl
    · intro i hi j u hu
      have h1 := hq i hi j u hu
      have := ha (by omega)
      obtain ⟨b, o, s⟩ := a
      simp only at this
      subst this
      rw [Addr.add_lit] at h1
      rw [show o + i * n + j = o + (i * n + j) by omega]
      exact h1

section
variable {H : Type} {enc : TypeId × Value → H} {W : World} {base : Nat} {v : Value} {d : DataW H} {p : List MemPlace}
theorem form_int (hv : Value.okWide Try.prog W .any base 3 v) (_h : DataW.Trod enc Try.prog W 0 (fun _ => true) true 3 v d p) : ∃ n : Int, v = .int .i64 n := okWide_int Try.underlying3 hv

theorem open_writes (hv : Value.okWide Try.prog W .any base 49 v) (h : DataW.Trod enc Try.prog W 0 (fun _ => true) true 49 v d p) :
    ∃ (ao : Option Addr) (len cap b off : Nat) (Q : Nat → K2 × V), v = .slice ao len cap ∧ (0 < len → ao = some ⟨b, off, none⟩) ∧ len ≤ cap ∧ cap ≤ 9223372036854775807 ∧ (∀ i, i < len → W.rangeAt b (off + i * 19) (wc (Q i))) :=
  haveI : Inhabited (K2 × V) := ⟨((0, 0), zeroV)⟩
  open_rows wc 19 wc_length (by decide) Try.underlying49 cellsWrite (fun _ _ _ h => trod_write h) hv h

theorem open_asks (hv : Value.okWide Try.prog W .any base 38 v) (h : DataW.Trod enc Try.prog W 0 (fun _ => true) true 38 v d p) :
    ∃ (ao : Option Addr) (len cap b off : Nat) (Q : Nat → QA), v = .slice ao len cap ∧ (0 < len → ao = some ⟨b, off, none⟩) ∧ len ≤ cap ∧ cap ≤ 9223372036854775807 ∧ (∀ i, i < len → QAt W b (off + i * 4) (Q i)) := by
  haveI : Inhabited QA := ⟨⟨0, 0, 0, 0⟩⟩
  obtain ⟨ao, len, cap, b, off, Q, e, h1, h2, h3, h4⟩ := open_rows qc 4 (fun _ => rfl) (by decide) Try.underlying38 cellsAsk (fun _ _ _ h => trod_ask h) hv h
  refine ⟨ao, len, cap, b, off, Q, e, h1, h2, h3, fun i hi => ?_⟩
  have hr := h4 i hi
  exact ⟨hr 0 _ rfl, hr 1 _ rfl, hr 2 _ rfl, hr 3 _ rfl⟩

theorem form_string (hv : Value.okWide Try.prog W .any base 9 v) (_h : DataW.Trod enc Try.prog W 0 (fun _ => true) true 9 v d p) : ∃ n : ByteArray, v = .string n := okWide_string Try.underlying9 hv

theorem open_ints (hv : Value.okWide Try.prog W .any base 32 v) (h : DataW.Trod enc Try.prog W 0 (fun _ => true) true 32 v d p) :
    ∃ (ao : Option Addr) (len cap b off : Nat) (L : Nat → Int), v = .slice ao len cap ∧ (0 < len → ao = some ⟨b, off, none⟩) ∧ len ≤ cap ∧ cap ≤ 9223372036854775807 ∧ (∀ i, i < len → W.cell? ⟨b, off + i, none⟩ = some (.int .i64 (L i))) := by
  obtain ⟨ao, len, cap, b, off, Q, e, h1, h2, h3, h4⟩ := open_rows (fun n : Int => [.int .i64 n]) 1 (fun _ => rfl) (by decide) Try.underlying32 cellsInt (fun _ _ _ h => by obtain ⟨n, hn, _⟩ := DataW.trod_int Try.underlying3 h; exact ⟨n, hn⟩) hv h
  refine ⟨ao, len, cap, b, off, Q, e, h1, h2, h3, fun i hi => ?_⟩
  have hr := h4 i hi 0 _ rfl
  rw [Nat.mul_one, Nat.add_zero] at hr
  exact hr
end
end Go.Proofs.Ytiklclmpealllaa
