/- What waits for what, by rising ranks; the guarded Take; no conditions but their own. -/
import Derived.Test.YtkmfeenooidbhaaRuns
import Derived.Test.YtkmfeenooidbhaaWithin
namespace Go.Proofs.Ytkmfeenooidbhaa
open Go.RowKit

theorem SrcI.seen {x : Value} {l : List Int} {w : World} (h : SrcI x l w) : ∃ ao b o c, x = .slice ao l.length c ∧ (0 < l.length → ao = some ⟨b, o, none⟩) ∧ ∀ j, j < l.length → w.cell? ⟨b, o + j, none⟩ = some (.int .i64 (zd l j)) := by
  rcases h.form with ⟨b, o, c, rfl⟩ | ⟨rfl, rfl⟩
  · exact ⟨_, b, o, c, rfl, fun _ => rfl, fun j hj => h.cell hj⟩
  · exact ⟨none, 0, 0, 0, rfl, fun h => by simp at h, fun j hj => by simp at hj⟩

/-- How many of the first n have something above t. -/
def cnt (ls : List (List Int)) (t : Int) : Nat → Nat
  | 0 => 0
  | o + 1 => cnt ls t o + if t < top (ld ls o) then 1 else 0

theorem cnt_mono {ls : List (List Int)} {t t' : Int} (h : t ≤ t') : ∀ n, cnt ls t' n ≤ cnt ls t n := by
  intro n
  induction n with
  | zero => exact Nat.le_refl _
  | succ n ih =>
    unfold cnt
    by_cases h1 : t' < top (ld ls n)
    · rw [if_pos h1, if_pos (by omega)]; omega
    · rw [if_neg h1]; split <;> omega

theorem cnt_less {ls : List (List Int)} {t t' : Int} (h : t ≤ t') {o : Nat} (h1 : t < top (ld ls o)) (h2 : ¬ t' < top (ld ls o)) : ∀ n, o < n → cnt ls t' n + 1 ≤ cnt ls t n := by
  intro n
  induction n with
  | zero => intro h; omega
  | succ n ih =>
    intro ho
    unfold cnt
    by_cases e : o = n
    · subst e
      rw [if_neg h2, if_pos h1]
      have := cnt_mono (ls := ls) h o
      omega
    · have := ih (by omega)
      by_cases h3 : t' < top (ld ls n)
      · rw [if_pos h3, if_pos (by omega)]; omega
      · rw [if_neg h3]; split <;> omega

theorem cnt_le (ls : List (List Int)) (t : Int) : ∀ n, cnt ls t n ≤ n := by
  intro n
  induction n with
  | zero => exact Nat.le_refl _
  | succ n ih => unfold cnt; split <;> omega

/-- Not all are above one of them. -/
theorem cnt_self (ls : List (List Int)) {a : Nat} : ∀ n, a < n → cnt ls (top (ld ls a)) n + 1 ≤ n := by
  intro n
  induction n with
  | zero => intro h; omega
  | succ n ih =>
    intro h
    unfold cnt
    by_cases e : a = n
    · subst e
      rw [if_neg (by omega)]
      have := cnt_le ls (top (ld ls a)) a
      omega
    · have := ih (by omega)
      split <;> omega

/-- Where one waits, if it waits: for one who has a higher one. -/
def Nxt (ls : List (List Int)) (k : Nat) (nx : List Int) (c : Nat) : Prop := ∀ a, a < c → zd nx a = -1 ∨ ∃ o : Nat, o < k ∧ zd nx a = o ∧ top (ld ls a) < top (ld ls o)

theorem zd_set {l : List Int} {i j : Nat} (h : i < l.length) (x : Int) : zd (l.set i x) j = if i = j then x else zd l j := by
  by_cases e : i = j
  · subst e; rw [if_pos rfl]; simp [zd, h]
  · rw [if_neg e]; simp [zd, e]

theorem Nxt.none {ls : List (List Int)} {k c : Nat} {nx : List Int} (h : Nxt ls k nx c) (hc : c < nx.length) : Nxt ls k (nx.set c (-1)) (c + 1) := by
  intro a ha
  rw [zd_set hc]
  by_cases e : c = a
  · rw [if_pos e]; exact .inl rfl
  · rw [if_neg e]; exact h a (by omega)

theorem Nxt.some {ls : List (List Int)} {k c : Nat} {nx : List Int} (h : Nxt ls k nx c) (hg : Good ls) (hk : ls.length = k) (hc : c < nx.length) {r : Int} (hr : top (ld ls c) < r) : Nxt ls k ((nx.set c (-1)).set c (ownr ls r)) (c + 1) := by
  intro a ha
  rw [List.set_set, zd_set hc]
  by_cases e : c = a
  · subst e
    rw [if_pos rfl]
    rcases ownr_is ls r with ⟨e, _⟩ | ⟨o, ho, e, hm⟩
    · exact .inl e
    · exact .inr ⟨o, by omega, e, by have := le_top (hg.rise o ho) hm; omega⟩
  · rw [if_neg e]; exact h a (by omega)

theorem circ_c1 (B N P Q : Nat) (vs : List Value) (ls : List (List Int)) (a r : Int) (w0 w : World) (hN : N ≤ 1000) (hn : vs.length ≤ 64) (h : Room B N vs ls w0 w) (hp : w.heap[P]? = some (.cells #[.int .i64 a] 3 (0, 0))) (hq : w.heap[Q]? = some (.cells #[.int .i64 r] 3 (0, 0))) :
    Calls Try.prog 20 #[.pointer (some ⟨B + 2, 0, none⟩), .pointer (some ⟨P, 0, none⟩), .pointer (some ⟨Q, 0, none⟩)] w fun e w' => (takeOut ls a r).ends e ∧ Left B (N + 1) vs (takeTo ls a r) w w' := by
  have c0 := cell_at h.var (i := 0) rfl
  have d0 := cell_at hp (i := 0) rfl
  have d1 := cell_at hq (i := 0) rfl
  have T := take_any B N vs ls a r hN hn w h.held
  clear h hq hp
  go_enter Try.func20, Try.ntmps20
  go_wp2_with fail
  refine T.mono ?_
  rintro e w1 ⟨he, hL⟩
  rcases ends_cases he with ⟨h, rfl⟩ | ⟨hst, v, older, hv, rfl, hold⟩
  · go_wp2
    go_end0
    exact ⟨he, hL⟩
  · exact ⟨rfl, ends_stop hv hold, hL⟩

theorem enters_i1 : Enters 20 := fun _ _ => by rfl

theorem circ_g (B N P Q : Nat) (vs : List Value) (ls : List (List Int)) (a r : Int) (w0 w : World) (hN : N ≤ 1000) (hn : vs.length ≤ 64) (h : Room B N vs ls w0 w) (hp : w.heap[P]? = some (.cells #[.int .i64 a] 3 (0, 0))) (hq : w.heap[Q]? = some (.cells #[.int .i64 r] 3 (0, 0))) :
    Calls Try.prog 9 #[.func (.func 20) #[] #[.pointer (some ⟨B + 2, 0, none⟩), .pointer (some ⟨P, 0, none⟩), .pointer (some ⟨Q, 0, none⟩)]] w fun e w' =>
      e = .returned (.tuple #[(takeOut ls a r).told, .bool (takeOut ls a r).stopped]) ∧ Left B (N + 1) vs (takeTo ls a r) w w' :=
  guard_left 20 _ enters_i1 _ B N (N + 1) vs ls _ w h.held (circ_c1 B N P Q vs ls a r w0 _ hN hn (h.still (inGuard_kept w)) ((inGuard_kept w).at hp (fun x => x)) ((inGuard_kept w).at hq (fun x => x)))

theorem make_ints (n : Nat) (hn : n ≤ 4096) (w : World) : (Instr.makeSlice 30 (.int .i64 (n : Int)) (.int .i64 (n : Int))).run Try.prog w =
    .ok (.slice (some ⟨w.heap.size, 0, none⟩) n n) (w.alloc (.cells (ints (List.replicate n (0 : Int))).toArray 3)) := by
  obtain ⟨i0, hi, hz0, hz1, hz2⟩ := info_parts info_int
  have hr := run_make (P := Try.prog) w 30 3 i0 _ Try.underlying30 hi hz0 .i64 .i64 n n (by omega) (Int.le_refl _) (by rw [hz2]; omega) (by omega)
  simp only [Int.toNat_natCast] at hr
  rw [hr]
  congr 3
  rw [hz1]
  apply Array.toList_inj.1
  rw [show (Value.int IntKind.i64 0).cells = #[Value.int IntKind.i64 0] from rfl, toList_madeCells_one]
  simp [ints]

/-- A row of the statement's own beside the holders. -/
structure Ring (B N X : Nat) (vs : List Value) (ls : List (List Int)) (nx : List Int) (w0 w : World) : Prop where
  room : Room B N vs ls w0 w
  row : w.heap[X]? = some (.cells (ints nx).toArray 3 (0, 0))
  far : ∀ k, Mine B vs k → k < X
  low : B + 2 < X

theorem Ring.still {B N X : Nat} {vs : List Value} {ls : List (List Int)} {nx : List Int} {w0 w w' : World} (h : Ring B N X vs ls nx w0 w) (hk : Kept (fun _ => False) w w') : Ring B N X vs ls nx w0 w' :=
  ⟨h.room.still hk, hk.at h.row (fun x => x), h.far, h.low⟩

theorem Ring.cell {B N X : Nat} {vs : List Value} {ls : List (List Int)} {nx : List Int} {w0 w : World} (h : Ring B N X vs ls nx w0 w) {i : Nat} (hi : i < nx.length) : w.cell? ⟨X, i, none⟩ = some (.int .i64 (zd nx i)) :=
  cell_at h.row (by simp [ints, zd, hi])

theorem Ring.put {B N X : Nat} {vs : List Value} {ls : List (List Int)} {nx : List Int} {w0 w : World} (h : Ring B N X vs ls nx w0 w) (i : Nat) (x : Int) : Ring B N X vs ls (nx.set i x) w0 (w.setCell ⟨X, i, none⟩ (.int .i64 x)) := by
  have hk : Kept (fun k => k = X) w (w.setCell ⟨X, i, none⟩ (.int .i64 x)) := by
    refine Kept.setCell (Kept.refl _ _) ?_ _
    intro _; rfl
  have hlow := h.low
  refine ⟨⟨h.room.held.kept hk (by omega) (fun k hm e => by have := h.far k hm; omega), hk.at h.room.var (by omega), h.room.kept.trans hk (fun k hk e => by have := h.room.base; omega), h.room.base⟩, ?_, h.far, h.low⟩
  rw [set_at h.row]
  simp [ints, List.map_set]
end Go.Proofs.Ytkmfeenooidbhaa
