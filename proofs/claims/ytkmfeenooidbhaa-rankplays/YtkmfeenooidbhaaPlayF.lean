/- A map of whose each rank is, held against the lists; what a row of calls comes to; no conditions but their own. -/
import Derived.Test.YtkmfeenooidbhaaRuns
import Derived.Test.YtkmfeenooidbhaaWithin
import Derived.Maps.OwnSet
import Derived.Maps.RangeWalk
namespace Go.Proofs.Ytkmfeenooidbhaa
open Go.RowKit

/-- How many the first a hold together. -/
def psum (ls : List (List Int)) : Nat → Nat
  | 0 => 0
  | a + 1 => psum ls a + (ld ls a).length

theorem psum_set {ls : List (List Int)} {i : Nat} (hi : i < ls.length) (l : List Int) : ∀ a, (a ≤ i → psum (ls.set i l) a = psum ls a) ∧ (i < a → psum (ls.set i l) a + (ld ls i).length = psum ls a + l.length) := by
  intro a
  induction a with
  | zero => exact ⟨fun _ => rfl, fun h => by omega⟩
  | succ a ih =>
    unfold psum
    rw [ld_set hi]
    refine ⟨fun h => ?_, fun h => ?_⟩
    · rw [if_neg (by omega), ih.1 (by omega)]
    · by_cases e : i = a
      · subst e; rw [if_pos rfl, ih.1 (Nat.le_refl _)]; omega
      · rw [if_neg e]; have := ih.2 (by omega); omega

theorem psum_empty (n a : Nat) : psum (List.replicate n []) a = 0 := by
  induction a with
  | zero => rfl
  | succ a ih => unfold psum; rw [ih, ld_empty]; rfl

theorem psum_le (ls : List (List Int)) (N : Nat) : ∀ a, (∀ i, i < a → (ld ls i).length ≤ N) → psum ls a ≤ a * N := by
  intro a
  induction a with
  | zero => intro _; unfold psum; omega
  | succ a ih =>
    intro h
    unfold psum
    have h1 := ih (fun i hi => h i (by omega))
    have h2 := h a (by omega)
    rw [Nat.succ_mul]
    omega

/-- A rank, as a map's key. -/
abbrev kt (x : Int) : Lit := .int .i64 x
abbrev Dat := DataW Unit

/-- The map says of each rank whose it is. -/
structure Tied (D : Dat) (ls : List (List Int)) : Prop where
  yes : ∀ i x, i < ls.length → x ∈ ld ls i → Maps.has D (kt x) = true ∧ D.atKey (kt x) (.lit (.int .i64 0)) = .lit (.int .i64 i)
  no : ∀ x, (∀ i, i < ls.length → x ∉ ld ls i) → Maps.has D (kt x) = false
  size : Maps.size D = psum ls ls.length

theorem keyLit (x : Int) : WideAt.IsKeyLit (kt x) := by trivial

theorem kt_ne {x y : Int} (h : x ≠ y) : kt x ≠ kt y := by intro e; simp at e; exact h e

theorem Tied.empty (n : Nat) : Tied (.map []) (List.replicate n []) :=
  ⟨fun i x _ hx => by rw [ld_empty] at hx; simp at hx, fun x _ => rfl, by rw [psum_empty]; rfl⟩

theorem Tied.take {D : Dat} {ls : List (List Int)} (h : Tied D ls) (hD : Maps.Tidy D) {i : Nat} (hi : i < ls.length) {r : Int} (ho : ownr ls r = -1) : Tied (D.put (kt r) (.lit (.int .i64 i))) (ls.set i (ld ls i ++ [r])) := by
  have hno : ∀ j, j < ls.length → r ∉ ld ls j := by
    rcases ownr_is ls r with ⟨_, h⟩ | ⟨j, hj, e, _⟩
    · exact h
    · omega
  refine ⟨fun j x hj hx => ?_, fun x hx => ?_, ?_⟩
  · rw [List.length_set] at hj
    rw [ld_set hi] at hx
    by_cases e : x = r
    · subst e
      have e2 : i = j := by
        by_cases e : i = j
        · exact e
        · rw [if_neg e] at hx; exact absurd hx (hno j hj)
      subst e2
      exact ⟨Maps.has_put_same hD.isMap (keyLit _) _, Maps.atKey_put_same hD.isMap (keyLit _) _ _⟩
    · have hx2 : x ∈ ld ls j := by
        by_cases e2 : i = j
        · rw [if_pos e2] at hx; simp [e] at hx; rw [← e2]; exact hx
        · rw [if_neg e2] at hx; exact hx
      rw [Maps.has_put_other (kt_ne e), Maps.atKey_put_other (kt_ne e)]
      exact h.yes j x hj hx2
  · have e : x ≠ r := by
      rintro rfl
      refine hx i (by simpa using hi) ?_
      rw [ld_set hi, if_pos rfl]; simp
    rw [Maps.has_put_other (kt_ne e)]
    refine h.no x (fun j hj hm => hx j (by simpa using hj) ?_)
    rw [ld_set hi]
    by_cases e2 : i = j
    · subst e2; rw [if_pos rfl]; simp [hm]
    · rw [if_neg e2]; exact hm
  · rw [Maps.size_put hD, h.no r hno, List.length_set]
    have := (psum_set hi (ld ls i ++ [r]) ls.length).2 hi
    simp at this
    have := h.size
    simp
    omega

theorem Tied.drop {D : Dat} {ls : List (List Int)} (h : Tied D ls) (hD : Maps.Tidy D) (hg : Good ls) {i : Nat} (hi : i < ls.length) {r : Int} (hr : r ∈ ld ls i) : Tied (D.del (kt r)) (ls.set i (without (ld ls i) r)) := by
  refine ⟨fun j x hj hx => ?_, fun x hx => ?_, ?_⟩
  · rw [List.length_set] at hj
    rw [ld_set hi] at hx
    have hx2 : x ∈ ld ls j ∧ x ≠ r := by
      by_cases e2 : i = j
      · subst e2; rw [if_pos rfl] at hx; exact without_mem.1 hx
      · rw [if_neg e2] at hx
        refine ⟨hx, ?_⟩
        rintro rfl
        exact e2 (hg.once i j x hi hj hr hx)
    rw [Maps.has_del_other (kt_ne hx2.2), Maps.atKey_del_other (kt_ne hx2.2)]
    exact h.yes j x hj hx2.1
  · by_cases e : x = r
    · subst e; exact Maps.has_del_same
    · rw [Maps.has_del_other (kt_ne e)]
      refine h.no x (fun j hj hm => hx j (by simpa using hj) ?_)
      rw [ld_set hi]
      by_cases e2 : i = j
      · subst e2; rw [if_pos rfl]; exact without_mem.2 ⟨hm, e⟩
      · rw [if_neg e2]; exact hm
  · have h1 := Maps.size_del hD (k := kt r)
    rw [(h.yes i r hi hr).1, if_pos rfl, h.size] at h1
    have h2 := (psum_set hi (without (ld ls i) r) ls.length).2 hi
    have h3 := without_len (hg.rise i hi) hr
    rw [List.length_set]
    omega

/-- What the map tells of a rank: the number, and whether it is there. -/
def lk (ls : List (List Int)) (r : Int) : Int := if ownr ls r = -1 then 0 else ownr ls r
def hd (ls : List (List Int)) (r : Int) : Bool := decide (ownr ls r ≠ -1)

theorem law : Maps.Keyed Try.prog 3 := Maps.int_keyed Try.underlying3
theorem zero_int' : ∀ w : World, (zeroValue 3).run Try.prog w = .ok (.int .i64 0) w := fun _ => by kernel_rfl

abbrev MapIn (b n : Nat) (D : Dat) (w : World) : Prop := w.ownsMap Try.prog 3 (plainElem Try.prog 3) b n D

theorem wf_key {x : Int} (h : -9223372036854775808 ≤ x ∧ x ≤ 9223372036854775807) : (Lit.int .i64 x).wf = true := WalkArith.wf_i64 (by omega)

theorem keyIs {x : Int} (h : (Lit.int .i64 x).wf = true) : keyOf Try.prog 3 (.int .i64 x) = some (kt x) := Maps.keyOf_int_mk Try.underlying3 h

theorem look_is {b n : Nat} {D : Dat} {ls : List (List Int)} {w : World} (h : MapIn b n D w) (ht : Tied D ls) {r : Int} (hw : (Lit.int .i64 r).wf = true) :
    (Instr.lookup 36 (.map (some b)) (.int .i64 r) true).run Try.prog w = .ok (.tuple #[.int .i64 (lk ls r), .bool (hd ls r)]) w := by
  obtain ⟨v, ps, hrun, hv⟩ := h.look_ok law Try.underlying36 (zero_int' w) (plainElem_int Try.underlying3 (by decide)) (keyIs hw)
  obtain ⟨c, rfl, hc, _⟩ := plainElem_int_inv Try.underlying3 hv
  have hc' := congrArg Prod.fst hc
  simp only at hc'
  rw [hrun]
  rcases ownr_is ls r with ⟨e, hno⟩ | ⟨i, hi, e, hm⟩
  · have h0 := ht.no r hno
    rw [Maps.atKey_of_not_has h0] at hc'
    have e1 : c = 0 := by simpa using hc'.symm
    subst e1
    unfold lk hd
    rw [h0, if_pos e, e]
    rfl
  · obtain ⟨h1, h2⟩ := ht.yes i r hi hm
    rw [h2] at hc'
    have e1 : c = i := by simpa using hc'.symm
    subst e1
    unfold lk hd
    rw [h1, if_neg (by omega), e]
    have : decide ((i : Int) ≠ -1) = true := by simp <;> omega
    rw [this]

/-- What who holds. -/
def Had (ls : List (List Int)) (who x : Int) : Prop := ∃ i : Nat, i < ls.length ∧ who = i ∧ x ∈ ld ls i

/-- Above all that who holds, of those that were looked at. -/
def Abv (ls : List (List Int)) (who r : Int) (left : Lit → Bool) (ab : Bool) : Prop := ab = true ↔ 0 ≤ r ∧ ∀ x, Had ls who x → left (kt x) = false → x < r

theorem abv_start {D : Dat} {ls : List (List Int)} (h : Tied D ls) (who r : Int) : Abv ls who r (Maps.has D) (decide (0 ≤ r)) := by
  unfold Abv
  constructor
  · intro h0
    refine ⟨by simpa using h0, ?_⟩
    rintro x ⟨i, hi, _, hx⟩ hl
    rw [(h.yes i x hi hx).1] at hl
    cases hl
  · intro h0; simpa using h0.1

theorem same_kt (x y : Int) : (kt x).sameKey (kt y) = decide (x = y) := by
  by_cases e : x = y
  · subst e; rw [WideAt.sameKey_self (keyLit x)]; simp
  · rw [Maps.sameKey_ne (kt_ne e)]; simp [e]

theorem abv_step {D : Dat} {ls : List (List Int)} (h : Tied D ls) (hg : Good ls) {who r : Int} {left : Lit → Bool} {ab : Bool} (ha : Abv ls who r left ab) {x c : Int} (hl : left (kt x) = true) (hc : ∀ zd, D.atKey (kt x) zd = .lit (.int .i64 c)) :
    Abv ls who r (fun z => left z && !z.sameKey (kt x)) (ab && (decide (c ≠ who) || decide (x < r))) := by
  have hh : Maps.has D (kt x) = true := Maps.has_true_of_atKey hc
  obtain ⟨i, hi, hx⟩ : ∃ i, i < ls.length ∧ x ∈ ld ls i := by
    rcases ownr_is ls x with ⟨_, hno⟩ | ⟨i, hi, _, hm⟩
    · rw [h.no x hno] at hh; cases hh
    · exact ⟨i, hi, hm⟩
  have hci : c = i := by
    have := (h.yes i x hi hx).2
    rw [hc] at this
    simpa using this
  unfold Abv at *
  rw [Bool.and_eq_true, ha, Bool.or_eq_true]
  constructor
  · rintro ⟨⟨h0, h1⟩, h2⟩
    refine ⟨h0, fun y hy hl' => ?_⟩
    simp only [same_kt] at hl'
    by_cases e : y = x
    · subst e
      rcases h2 with h2 | h2
      · obtain ⟨j, hj, e1, hm⟩ := hy
        have := hg.once i j y hi hj hx hm
        simp at h2
        omega
      · simpa using h2
    · refine h1 y hy ?_
      simpa [e] using hl'
  · rintro ⟨h0, h1⟩
    refine ⟨⟨h0, fun y hy hl' => h1 y hy (by show (left (kt y) && _) = false; rw [hl']; rfl)⟩, ?_⟩
    by_cases e : c = who
    · right
      have := h1 x ⟨i, hi, by omega, hx⟩ (by simp [same_kt])
      simpa using this
    · left; simpa using e

theorem abv_end {ls : List (List Int)} (hg : Good ls) {r : Int} {left : Lit → Bool} {ab : Bool} {i : Nat} (hi : i < ls.length) (ha : Abv ls i r left ab) (hl : ∀ z, left z = false) : ab = decide (top (ld ls i) < r) := by
  have : ab = true ↔ top (ld ls i) < r := by
    unfold Abv at ha
    rw [top_lt (hg.pos i hi) (hg.rise i hi), ha]
    constructor
    · rintro ⟨h0, h1⟩; exact ⟨h0, fun x hx => h1 x ⟨i, hi, rfl, hx⟩ (hl _)⟩
    · rintro ⟨h0, h1⟩
      refine ⟨h0, ?_⟩
      rintro x ⟨j, hj, e, hx⟩ _
      exact h1 x (by rw [show i = j by omega]; exact hx)
  rw [Bool.eq_iff_iff, this]; simp
end Go.Proofs.Ytkmfeenooidbhaa
