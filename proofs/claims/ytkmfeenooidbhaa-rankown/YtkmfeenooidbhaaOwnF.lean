/- One who takes rising and lets go in any order, beside another; a row of the statement's own; no conditions but their own. -/
import Derived.Test.YtkmfeenooidbhaaRuns
import Derived.Test.YtkmfeenooidbhaaWithin
namespace Go.Proofs.Ytkmfeenooidbhaa
open Go.RowKit

/-- b has 1000, a has L, all others have nothing. -/
def lsOf (k a b : Nat) (L : List Int) : List (List Int) := ((List.replicate k []).set b [1000]).set a L

theorem lsOf_len (k a b : Nat) (L : List Int) : (lsOf k a b L).length = k := by simp [lsOf]

theorem ld_lsOf {k a b : Nat} (ha : a < k) (hb : b < k) (L : List Int) (i : Nat) : ld (lsOf k a b L) i = if a = i then L else if b = i then [1000] else [] := by
  unfold lsOf
  rw [ld_set (by simpa using ha)]
  by_cases e : a = i
  · rw [if_pos e, if_pos e]
  · rw [if_neg e, if_neg e, ld_set (by simpa using hb), ld_empty]

theorem lsOf_a {k a b : Nat} (ha : a < k) (hb : b < k) (L : List Int) : ld (lsOf k a b L) a = L := by rw [ld_lsOf ha hb, if_pos rfl]
theorem lsOf_b {k a b : Nat} (ha : a < k) (hb : b < k) (hab : a ≠ b) (L : List Int) : ld (lsOf k a b L) b = [1000] := by rw [ld_lsOf ha hb, if_neg hab, if_pos rfl]

theorem lsOf_set {k a b : Nat} (L L' : List Int) : (lsOf k a b L).set a L' = lsOf k a b L' := by unfold lsOf; rw [List.set_set]

theorem lsOf_start {k a b : Nat} (ha : a < k) (hab : a ≠ b) : (List.replicate k ([] : List Int)).set b [1000] = lsOf k a b [] := by
  unfold lsOf
  apply List.ext_getElem?
  intro i
  by_cases e : a = i
  · subst e
    rw [List.getElem?_set_self (by simpa using ha), List.getElem?_set_ne (fun x => hab x.symm)]
    simp [ha]
  · rw [List.getElem?_set_ne e]

theorem lsOf_free {k a b : Nat} (ha : a < k) (hb : b < k) {L : List Int} {r : Int} (h1 : r ∉ L) (h2 : r ≠ 1000) : ownr (lsOf k a b L) r = -1 := by
  refine ownr_none (fun i _ hm => ?_)
  rw [ld_lsOf ha hb] at hm
  by_cases e : a = i
  · rw [if_pos e] at hm; exact h1 hm
  · rw [if_neg e] at hm
    by_cases e2 : b = i
    · rw [if_pos e2] at hm; simp at hm; exact h2 hm
    · rw [if_neg e2] at hm; simp at hm

theorem lsOf_take {k a b : Nat} (ha : a < k) (hb : b < k) {L : List Int} (hR : Rising L) {r : Int} (h1 : top L < r) (h2 : r ≠ 1000) : takeOut (lsOf k a b L) a r = .done ∧ takeTo (lsOf k a b L) a r = lsOf k a b (L ++ [r]) := by
  have hno : ownr (lsOf k a b L) r = -1 := lsOf_free ha hb (fun hm => by have := le_top hR hm; omega) h2
  have hl := lsOf_len k a b L
  unfold takeOut takeTo
  rw [Int.toNat_natCast, lsOf_a ha hb, if_pos (by rw [hl]; omega), if_pos h1, if_pos hno, if_pos ⟨by omega, by rw [hl]; omega, h1, hno⟩, lsOf_set]
  exact ⟨rfl, rfl⟩

theorem lsOf_let {k a b : Nat} (ha : a < k) (hb : b < k) {L : List Int} {r : Int} (h1 : r ∈ L) : letOut (lsOf k a b L) a r = .done ∧ letTo (lsOf k a b L) a r = lsOf k a b (without L r) := by
  have hl := lsOf_len k a b L
  unfold letOut letTo
  rw [Int.toNat_natCast, lsOf_a ha hb, if_pos (by rw [hl]; omega), if_pos h1, if_pos ⟨by omega, by rw [hl]; omega, h1⟩, lsOf_set]
  exact ⟨rfl, rfl⟩

theorem lsOf_last {k a b : Nat} (ha : a < k) (hb : b < k) : letOut (lsOf k a b []) a 1000 = .halts 6 1000 ∧ letTo (lsOf k a b []) a 1000 = lsOf k a b [] := by
  have hl := lsOf_len k a b []
  unfold letOut letTo
  rw [Int.toNat_natCast, lsOf_a ha hb, if_pos (by rw [hl]; omega), if_neg (by simp), if_neg (by simp)]
  exact ⟨rfl, rfl⟩

theorem start_take {k b : Nat} (hb : b < k) : takeOut (List.replicate k []) b 1000 = .done ∧ takeTo (List.replicate k []) b 1000 = (List.replicate k []).set b [1000] := by
  have hno : ownr (List.replicate k []) 1000 = -1 := ownr_none (fun i _ hm => by rw [ld_empty] at hm; simp at hm)
  have ht : top (ld (List.replicate k []) b) < 1000 := by rw [ld_empty]; decide
  unfold takeOut takeTo
  rw [Int.toNat_natCast, if_pos (by simp; omega), if_pos ht, if_pos hno, if_pos ⟨by omega, by simp; omega, ht, hno⟩, ld_empty]
  exact ⟨rfl, rfl⟩

/-- The holders, the statement's variable a, its row own. -/
structure Pair (A B N : Nat) (vs : List Value) (ls : List (List Int)) (a : Nat) (v : Value) (L : List Int) (w0 w : World) : Prop where
  room : Room B N vs ls w0 w
  box : w.heap[A]? = some (.cells #[.int .i64 a] 3 (0, 0))
  low : A < B
  own : w.ownsRow (B + 3) 3 1 v L.length (ints L)
  apart : ∀ k, v.ownBlock = some k → ¬ Mine B vs k

theorem Pair.still {A B N : Nat} {vs : List Value} {ls : List (List Int)} {a : Nat} {v : Value} {L : List Int} {w0 w w' : World} (h : Pair A B N vs ls a v L w0 w) (hk : Kept (fun _ => False) w w') : Pair A B N vs ls a v L w0 w' :=
  ⟨h.room.still hk, hk.at h.box (fun x => x), h.low, own_kept h.own hk (fun _ _ x => x), h.apart⟩

theorem Pair.left {A B N M : Nat} {vs : List Value} {ls ls' : List (List Int)} {a : Nat} {v : Value} {L : List Int} {w0 w w' : World} (h : Pair A B N vs ls a v L w0 w) (hl : Left B M vs ls' w w') : ∃ vs', vs'.length = vs.length ∧ Pair A B M vs' ls' a v L w0 w' := by
  obtain ⟨vs', h1, h2, h3, h4⟩ := h.room.left hl
  have hlow := h.low
  refine ⟨vs', h1, h2, h3.at h.box (fun x => by have := Mine.low h.room.held x; omega), h.low, own_kept h.own h3 (fun k e x => h.apart k e x), fun k e x => ?_⟩
  rcases h4 k x with y | y
  · exact h.apart k e y
  · have := (h.own.lt k e).2; omega

/-- The row grows, or another one comes in its place. -/
theorem Pair.row {A B N : Nat} {vs : List Value} {ls : List (List Int)} {a : Nat} {v v' : Value} {L L' : List Int} {w0 w w' : World} (h : Pair A B N vs ls a v L w0 w) (hk : Kept (fun k => v.ownBlock = some k) w w') (hown : w'.ownsRow (B + 3) 3 1 v' L'.length (ints L'))
    (hat : ∀ k, v'.ownBlock = some k → v.ownBlock = some k ∨ w.heap.size ≤ k) : Pair A B N vs ls a v' L' w0 w' := by
  have hlow : ∀ k, v.ownBlock = some k → B + 3 ≤ k := fun k e => (h.own.lt k e).1
  have hr := h.room
  have hA := h.low
  refine ⟨⟨hr.held.kept hk (fun e => by have := hlow _ e; omega) (fun k hm e => h.apart k e hm), hk.at hr.var (fun e => by have := hlow _ e; omega), hr.kept.trans hk (fun k hk' e => by have := hlow _ e; have := hr.base; omega), hr.base⟩, hk.at h.box (fun e => by have := hlow _ e; omega), h.low, hown, fun k e hm => ?_⟩
  rcases hat k e with x | x
  · exact h.apart k x hm
  · have := Mine.lt hr.held hm; omega

theorem own_c1 (A B N : Nat) (vs : List Value) (ls : List (List Int)) (a : Nat) (v : Value) (L : List Int) (w0 w : World) (hN : N ≤ 1000) (ho : letOut ls a 1000 = .halts 6 1000) (hT : letTo ls a 1000 = ls) (h : Pair A B N vs ls a v L w0 w) :
    Calls Try.prog 21 #[.pointer (some ⟨B + 2, 0, none⟩), .pointer (some ⟨A, 0, none⟩)] w fun e w' => (Out.halts 6 1000).ends e ∧ Left B N vs ls w w' := by
  have T := let_any B N vs ls a 1000 hN w h.room.held
  rw [ho, hT] at T
  have c0 := cell_at h.room.var (i := 0) rfl
  have c1 := cell_at h.box (i := 0) rfl
  clear h
  go_enter Try.func21, Try.ntmps21
  go_wp2_with fail
  refine T.mono ?_
  rintro e w1 ⟨he, hL⟩
  rcases ends_cases he with ⟨h, rfl⟩ | ⟨hst, v, older, hv, rfl, hold⟩
  · cases h
  · exact ⟨rfl, ends_stop hv hold, hL⟩

theorem enters_o1 : Enters 21 := fun _ _ => by rfl

theorem own_g (A B N : Nat) (vs : List Value) (ls : List (List Int)) (a : Nat) (v : Value) (L : List Int) (w0 w : World) (hN : N ≤ 1000) (ho : letOut ls a 1000 = .halts 6 1000) (hT : letTo ls a 1000 = ls) (h : Pair A B N vs ls a v L w0 w) :
    Calls Try.prog 9 #[.func (.func 21) #[] #[.pointer (some ⟨B + 2, 0, none⟩), .pointer (some ⟨A, 0, none⟩)]] w fun e w' =>
      e = .returned (.tuple #[stopV 6 1000, .bool true]) ∧ Left B N vs ls w w' :=
  guard_left 21 _ enters_o1 _ B N N vs ls _ w h.room.held (own_c1 A B N vs ls a v L w0 _ hN ho hT (h.still (inGuard_kept w)))
end Go.Proofs.Ytkmfeenooidbhaa
