/- Some harts, and what each call of them does; no conditions. -/
import Derived.Test.YtckbimgoepcoaaaWalks
import Derived.Laws.OwnMore
namespace Go.Proofs.Ytckbimgoepcoaaa
open Go.RowKit

/-- What is kept of a hart. -/
structure H where
  on : Bool
  nest : Nat
  mail : Nat

def H.cells (h : H) : List Value := [.bool h.on, .int .i64 h.nest, .int .u8 h.mail]
def rowOf (hs : List H) : List Value := hs.flatMap H.cells
def hd (hs : List H) (a : Nat) : H := hs.getD a ⟨true, 0, 0⟩

theorem rowOf_cons (h : H) (hs : List H) : rowOf (h :: hs) = Value.bool h.on :: .int .i64 h.nest :: .int .u8 h.mail :: rowOf hs := rfl

theorem rowOf_get (hs : List H) (a : Nat) (ha : a < hs.length) : (rowOf hs)[a * 3]? = some (.bool (hd hs a).on) ∧ (rowOf hs)[a * 3 + 1]? = some (.int .i64 (hd hs a).nest) ∧ (rowOf hs)[a * 3 + 2]? = some (.int .u8 (hd hs a).mail) := by
  induction hs generalizing a with
  | nil => simp at ha
  | cons h hs ih =>
    cases a with
    | zero => simp [rowOf_cons, hd]
    | succ a =>
      have := ih a (by simpa using ha)
      rw [show (a + 1) * 3 = a * 3 + 3 by omega, rowOf_cons]
      simpa [hd] using this

theorem rowOf_set (hs : List H) (a : Nat) (ha : a < hs.length) (x : Bool) (n m : Nat) :
    (rowOf hs).set (a * 3) (.bool x) = rowOf (hs.set a ⟨x, (hd hs a).nest, (hd hs a).mail⟩) ∧
    (rowOf hs).set (a * 3 + 1) (.int .i64 n) = rowOf (hs.set a ⟨(hd hs a).on, n, (hd hs a).mail⟩) ∧
    (rowOf hs).set (a * 3 + 2) (.int .u8 m) = rowOf (hs.set a ⟨(hd hs a).on, (hd hs a).nest, m⟩) := by
  induction hs generalizing a with
  | nil => simp at ha
  | cons h hs ih =>
    cases a with
    | zero => simp [rowOf_cons, hd]
    | succ a =>
      have := ih a (by simpa using ha)
      rw [show (a + 1) * 3 = a * 3 + 3 by omega, rowOf_cons]
      simpa [hd, rowOf_cons] using this

theorem hd_set (hs : List H) (a b : Nat) (h : H) (ha : a < hs.length) : hd (hs.set a h) b = if a = b then h else hd hs b := by
  by_cases e : a = b
  · subst e; simp [hd, ha]
  · simp [hd, e, List.getD]

/-- Some harts in block p, each kept in block b. -/
structure HartsIn (p b : Nat) (hs : List H) (w : World) : Prop where
  mem : w.heap[p]? = some (.cells #[.slice (some ⟨b, 0, none⟩) hs.length hs.length] 51 (0, 0))
  row : w.heap[b]? = some (.cells (rowOf hs).toArray 53 (0, 0))
  ne : p ≠ b

theorem HartsIn.kept {p b : Nat} {hs : List H} {w w' : World} {X : Nat → Prop} (h : HartsIn p b hs w) (hk : Kept X w w') (hp : ¬ X p) (hb : ¬ X b) : HartsIn p b hs w' :=
  ⟨hk.at h.mem hp, hk.at h.row hb, h.ne⟩

theorem HartsIn.on {p b : Nat} {hs : List H} {w : World} (h : HartsIn p b hs w) {a : Nat} (ha : a < hs.length) : w.cell? ⟨b, a * 3, none⟩ = some (.bool (hd hs a).on) :=
  cell_at h.row (by simpa using (rowOf_get hs a ha).1)
theorem HartsIn.nest {p b : Nat} {hs : List H} {w : World} (h : HartsIn p b hs w) {a : Nat} (ha : a < hs.length) : w.cell? ⟨b, a * 3 + 1, none⟩ = some (.int .i64 (hd hs a).nest) :=
  cell_at h.row (by simpa using (rowOf_get hs a ha).2.1)
theorem HartsIn.mail {p b : Nat} {hs : List H} {w : World} (h : HartsIn p b hs w) {a : Nat} (ha : a < hs.length) : w.cell? ⟨b, a * 3 + 2, none⟩ = some (.int .u8 (hd hs a).mail) :=
  cell_at h.row (by simpa using (rowOf_get hs a ha).2.2)

theorem HartsIn.putOn {p b : Nat} {hs : List H} {w : World} (h : HartsIn p b hs w) {a : Nat} (ha : a < hs.length) (x : Bool) :
    HartsIn p b (hs.set a ⟨x, (hd hs a).nest, (hd hs a).mail⟩) (w.setCell ⟨b, a * 3, none⟩ (.bool x)) := by
  refine ⟨(set_off _ h.ne).trans (by simpa using h.mem), (set_at h.row _ _).trans ?_, h.ne⟩
  rw [← (rowOf_set hs a ha x 0 0).1]; simp
theorem HartsIn.putNest {p b : Nat} {hs : List H} {w : World} (h : HartsIn p b hs w) {a : Nat} (ha : a < hs.length) (n : Nat) :
    HartsIn p b (hs.set a ⟨(hd hs a).on, n, (hd hs a).mail⟩) (w.setCell ⟨b, a * 3 + 1, none⟩ (.int .i64 n)) := by
  refine ⟨(set_off _ h.ne).trans (by simpa using h.mem), (set_at h.row _ _).trans ?_, h.ne⟩
  rw [← (rowOf_set hs a ha true n 0).2.1]; simp
theorem HartsIn.putMail {p b : Nat} {hs : List H} {w : World} (h : HartsIn p b hs w) {a : Nat} (ha : a < hs.length) (m : Nat) :
    HartsIn p b (hs.set a ⟨(hd hs a).on, (hd hs a).nest, m⟩) (w.setCell ⟨b, a * 3 + 2, none⟩ (.int .u8 m)) := by
  refine ⟨(set_off _ h.ne).trans (by simpa using h.mem), (set_at h.row _ _).trans ?_, h.ne⟩
  rw [← (rowOf_set hs a ha true 0 m).2.2]; simp

theorem kept_set {X : Nat → Prop} {w w' : World} {p : Nat} (h : Kept X w w') (hp : X p) (v : Value) (i : Nat) : Kept X w (w'.setCell ⟨p, i, none⟩ v) := Kept.setCell h (fun _ => hp) v

theorem at_ok (p b : Nat) (hs : List H) (a : Nat) (ha : a < hs.length) (w : World) (h : HartsIn p b hs w) :
    Calls Try.prog 24 #[.pointer (some ⟨p, 0, none⟩), .int .i64 a] w fun e w' => e = .returned (.pointer (some ⟨b, a * 3, none⟩)) ∧ w' = w := by
  have c0 := cell_at h.mem (i := 0) rfl
  have ha' : (a : Int) < (hs.length : Int) := by omega
  have hd : decide ((0 : Int) ≤ (a : Int)) = true := by simp
  go_enter Try.func24, Try.ntmps24
  go_wp2_with fail
  refine (must_ok _ _ w).mono ?_
  rintro e w1 ⟨rfl, rfl⟩
  go_wp2
  go_ret
  exact ⟨rfl, rfl⟩

theorem at_no (p b : Nat) (hs : List H) (a : Int) (ha : a < 0 ∨ (hs.length : Int) ≤ a) (w : World) (h : HartsIn p b hs w) :
    Calls Try.prog 24 #[.pointer (some ⟨p, 0, none⟩), .int .i64 a] w fun e w' => (Out.halts 3 a).ends e ∧ w' = w := by
  have c0 := cell_at h.mem (i := 0) rfl
  by_cases h0 : a < 0
  · have hd : decide ((0 : Int) ≤ a) = false := by simp; omega
    go_enter Try.func24, Try.ntmps24
    go_wp2_with fail
    refine (must_not _ _ w).mono ?_
    rintro e w1 ⟨he, rfl⟩
    rcases ends_cases he with ⟨h, rfl⟩ | ⟨hst, v, older, hv, rfl, hold⟩
    · cases h
    · exact ⟨rfl, ends_stop hv hold, rfl⟩
  · have hd : decide ((0 : Int) ≤ a) = true := by simp; omega
    have h1 : (hs.length : Int) ≤ a := by omega
    have hd1 : decide (a < (hs.length : Int)) = false := by simp; omega
    go_enter Try.func24, Try.ntmps24
    go_wp2_with fail
    refine (must_not _ _ w).mono ?_
    rintro e w1 ⟨he, rfl⟩
    rcases ends_cases he with ⟨h, rfl⟩ | ⟨hst, v, older, hv, rfl, hold⟩
    · cases h
    · exact ⟨rfl, ends_stop hv hold, rfl⟩

def H.isOn (h : H) : Bool := h.on && h.nest == 0

theorem isOn_w (p b : Nat) (hs : List H) (a : Nat) (ha : a < hs.length) (w : World) (h : HartsIn p b hs w) :
    Calls Try.prog 25 #[.pointer (some ⟨b, a * 3, none⟩)] w fun e w' => e = .returned (.bool (hd hs a).isOn) ∧ w' = w := by
  have c0 := h.on ha
  have c1 := h.nest ha
  unfold H.isOn
  generalize (hd hs a).nest = n at *
  cases hh : (hd hs a).on
  · rw [hh] at c0
    go_enter Try.func25, Try.ntmps25
    go_wp2
    go_ret
    exact ⟨rfl, rfl⟩
  · rw [hh] at c0
    by_cases h0 : n = 0
    · subst h0
      go_enter Try.func25, Try.ntmps25
      go_wp2
      go_ret
      exact ⟨rfl, rfl⟩
    · have h1 : ¬ (n : Int) = 0 := by omega
      have h2 : ((n : Int) == 0) = false := by simp; omega
      go_enter Try.func25, Try.ntmps25
      go_wp2
      go_ret
      exact ⟨by simp [h0], rfl⟩

theorem on_ok (p b : Nat) (hs : List H) (a : Nat) (ha : a < hs.length) (w : World) (h : HartsIn p b hs w) :
    Calls Try.prog 10 #[.pointer (some ⟨p, 0, none⟩), .int .i64 a] w fun e w' => e = .returned (.bool (hd hs a).isOn) ∧ w' = w := by
  have A := at_ok p b hs a ha w h
  have B := isOn_w p b hs a ha w h
  go_enter Try.func10, Try.ntmps10
  go_wp2_with fail
  refine A.mono ?_
  rintro e w1 ⟨rfl, rfl⟩
  go_wp2_with fail
  refine B.mono ?_
  rintro e w2 ⟨rfl, rfl⟩
  go_wp2
  go_ret
  exact ⟨rfl, rfl⟩

theorem nest_ok (p b : Nat) (hs : List H) (a : Nat) (ha : a < hs.length) (w : World) (h : HartsIn p b hs w) :
    Calls Try.prog 19 #[.pointer (some ⟨p, 0, none⟩), .int .i64 a] w fun e w' => e = .returned (.int .i64 (hd hs a).nest) ∧ w' = w := by
  have A := at_ok p b hs a ha w h
  have c1 := h.nest ha
  go_enter Try.func19, Try.ntmps19
  go_wp2_with fail
  refine A.mono ?_
  rintro e w1 ⟨rfl, rfl⟩
  go_wp2
  go_ret
  exact ⟨rfl, rfl⟩

theorem n_w (p b : Nat) (hs : List H) (w : World) (h : HartsIn p b hs w) :
    Calls Try.prog 20 #[.pointer (some ⟨p, 0, none⟩)] w fun e w' => e = .returned (.int .i64 hs.length) ∧ w' = w := by
  have c0 := cell_at h.mem (i := 0) rfl
  go_enter Try.func20, Try.ntmps20
  go_wp2
  go_ret
  exact ⟨rfl, rfl⟩

end Go.Proofs.Ytckbimgoepcoaaa
