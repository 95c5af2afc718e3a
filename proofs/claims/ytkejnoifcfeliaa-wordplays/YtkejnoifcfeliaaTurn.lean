/- A round of the statement on any accesses: what it has made, and what each step leaves of it; no conditions. -/
import Derived.Test.YtkejnoifcfeliaaAsk
import Derived.Deep.Draws
namespace Go.Proofs.Ytkejnoifcfeliaa
open Go.RowKit

theorem play_told (kind a v : Int) (ws : List Int) : ∃ s0 s1 : Int, ∃ st : Bool, (play kind a v ws).o.told = .agg #[.int .i64 s0, .int .i64 s1] ∧ (play kind a v ws).o.stopped = st ∧
    ((st = false ∧ (play kind a v ws).why = 0) ∨ (st = true ∧ s0 = 2 ∧ s1 = a ∧ (play kind a v ws).why = 2)) := by
  by_cases hk : kind = 1 ∨ kind = 2 ∨ kind = 3 ∨ kind = 4
  · by_cases ha : 0 ≤ a ∧ a < (ws.length : Int)
    · refine ⟨0, 0, false, ?_, ?_, .inl ⟨rfl, ?_⟩⟩ <;> (unfold play; rw [if_pos hk, if_pos ha]; try rfl)
    · refine ⟨2, a, true, ?_, ?_, .inr ⟨rfl, rfl, rfl, ?_⟩⟩ <;> (unfold play; rw [if_pos hk, if_neg ha]; try rfl)
  · refine ⟨0, 0, false, ?_, ?_, .inl ⟨rfl, ?_⟩⟩ <;> (unfold play; rw [if_neg hk]; try rfl)

theorem ref1_w (r b : Nat) (ws : List Int) (c why : Int) (a v : Int) (hc : 0 ≤ c ∧ c ≤ 1000000) (w : World) (h : RefIn r b ws c why w) :
    Calls Try.prog 17 #[.pointer (some ⟨r, 0, none⟩), .int .i64 a] w fun e w' => e = .returned (.int .i64 (play 1 a v ws).ans) ∧ RefIn r b (play 1 a v ws).ws (c + (play 1 a v ws).dc) (play 1 a v ws).why w' ∧ Kept (fun k => k = r ∨ k = b) w w' := by
  by_cases ha : 0 ≤ a ∧ a < (ws.length : Int)
  · obtain ⟨n, rfl⟩ : ∃ n : Nat, a = n := ⟨a.toNat, by omega⟩
    rw [play1 (by omega)]
    exact refload_ok r b ws c why n (by omega) hc w h
  · rw [play_out (by omega) (by omega)]
    simpa using refload_no r b ws c why a (by omega) w h

theorem ref2_w (r b : Nat) (ws : List Int) (c why : Int) (a v : Int) (hc : 0 ≤ c ∧ c ≤ 1000000) (w : World) (h : RefIn r b ws c why w) :
    Calls Try.prog 18 #[.pointer (some ⟨r, 0, none⟩), .int .i64 a, .int .i64 v] w fun e w' => e = .returned (.tuple #[]) ∧ RefIn r b (play 2 a v ws).ws (c + (play 2 a v ws).dc) (play 2 a v ws).why w' ∧ Kept (fun k => k = r ∨ k = b) w w' := by
  by_cases ha : 0 ≤ a ∧ a < (ws.length : Int)
  · obtain ⟨n, rfl⟩ : ∃ n : Nat, a = n := ⟨a.toNat, by omega⟩
    rw [play2 (by omega)]
    exact refstore_ok r b ws c why n v (by omega) hc w h
  · rw [play_out (by omega) (by omega)]
    simpa using refstore_no r b ws c why a v (by omega) w h

theorem ref3_w (r b : Nat) (ws : List Int) (c why : Int) (a v : Int) (hc : 0 ≤ c ∧ c ≤ 1000000) (w : World) (h : RefIn r b ws c why w) :
    Calls Try.prog 19 #[.pointer (some ⟨r, 0, none⟩), .int .i64 a, .int .i64 v] w fun e w' => e = .returned (.int .i64 (play 3 a v ws).ans) ∧ RefIn r b (play 3 a v ws).ws (c + (play 3 a v ws).dc) (play 3 a v ws).why w' ∧ Kept (fun k => k = r ∨ k = b) w w' := by
  by_cases ha : 0 ≤ a ∧ a < (ws.length : Int)
  · obtain ⟨n, rfl⟩ : ∃ n : Nat, a = n := ⟨a.toNat, by omega⟩
    rw [play3 (by omega)]
    exact refadd_ok r b ws c why n v (by omega) hc w h
  · rw [play_out (by omega) (by omega)]
    simpa using refadd_no r b ws c why a v (by omega) w h

theorem ref4_w (r b : Nat) (ws : List Int) (c why : Int) (a v : Int) (hc : 0 ≤ c ∧ c ≤ 1000000) (w : World) (h : RefIn r b ws c why w) :
    Calls Try.prog 20 #[.pointer (some ⟨r, 0, none⟩), .int .i64 a, .int .i64 v] w fun e w' => e = .returned (.int .i64 (play 4 a v ws).ans) ∧ RefIn r b (play 4 a v ws).ws (c + (play 4 a v ws).dc) (play 4 a v ws).why w' ∧ Kept (fun k => k = r ∨ k = b) w w' := by
  by_cases ha : 0 ≤ a ∧ a < (ws.length : Int)
  · obtain ⟨n, rfl⟩ : ∃ n : Nat, a = n := ⟨a.toNat, by omega⟩
    rw [play4 (by omega)]
    exact refswap_ok r b ws c why n v (by omega) hc w h
  · rw [play_out (by omega) (by omega)]
    simpa using refswap_no r b ws c why a v (by omega) w h

theorem play_ans2 (a v : Int) (ws : List Int) : (play 2 a v ws).ans = 0 := by
  by_cases ha : 0 ≤ a ∧ a < (ws.length : Int)
  · unfold play; rw [if_pos (by omega), if_pos ha]; simp
  · rw [play_out (by omega) (by omega)]

/-- What the statement has made: the size and the memory in their variables, the memory, the reference's. -/
structure PlaysIn (B p b r rb n : Nat) (ws : List Int) (c why : Int) (w0 w : World) : Prop where
  nbox : w.heap[B]? = some (.cells #[.int .i64 n] 3 (0, 0))
  mbox : w.heap[B + 1]? = some (.cells #[.pointer (some ⟨p, 0, none⟩)] 22 (0, 0))
  mem : MemIn p b ws c w
  ref : RefIn r rb ws c why w
  len : ws.length = n
  kept : Kept (fun _ => False) w0 w
  base : w0.heap.size = B
  lp : B + 1 < p
  lb : B + 1 < b
  lr : B + 1 < r
  lrb : B + 1 < rb
  pr : p < r
  br : b < r
  prb : p < rb
  brb : b < rb

/-- In the middle of a round: the ask in block Q, its answer behind it, the stop that was told in block T. -/
structure Turn (B p b r rb n Q T : Nat) (kind a v ans s0 s1 : Int) (ws rs : List Int) (c rc why : Int) (w0 w : World) : Prop where
  nbox : w.heap[B]? = some (.cells #[.int .i64 n] 3 (0, 0))
  mbox : w.heap[B + 1]? = some (.cells #[.pointer (some ⟨p, 0, none⟩)] 22 (0, 0))
  mem : MemIn p b ws c w
  ref : RefIn r rb rs rc why w
  q : w.heap[Q]? = some (.cells #[.int .i64 kind, .int .i64 a, .int .i64 v] 39 (0, 0))
  got : w.heap[Q + 1]? = some (.cells #[.int .i64 ans] 3 (0, 0))
  stp : w.heap[T]? = some (.cells #[.int .i64 s0, .int .i64 s1] 28 (0, 0))
  kept : Kept (fun _ => False) w0 w

/-- The blocks lie apart. -/
structure Lie (w0 : World) (B p b r rb Q T : Nat) : Prop where
  base : w0.heap.size = B
  lp : B + 1 < p
  lb : B + 1 < b
  lr : B + 1 < r
  lrb : B + 1 < rb
  pr : p < r
  br : b < r
  prb : p < rb
  brb : b < rb
  rQ : r < Q
  rbQ : rb < Q
  QT : Q + 1 < T

theorem Turn.moved {B p b r rb n Q T : Nat} {kind a v ans s0 s1 : Int} {ws rs rs' : List Int} {c rc rc' why why' : Int} {w0 w w' : World} (h : Turn B p b r rb n Q T kind a v ans s0 s1 ws rs c rc why w0 w) (l : Lie w0 B p b r rb Q T)
    (hr : RefIn r rb rs' rc' why' w') (hk : Kept (fun k => k = r ∨ k = rb) w w') : Turn B p b r rb n Q T kind a v ans s0 s1 ws rs' c rc' why' w0 w' := by
  obtain ⟨l0, l1, l2, l3, l4, l5, l6, l7, l8, l9, l10, l11⟩ := l
  exact ⟨hk.at h.nbox (by omega), hk.at h.mbox (by omega), h.mem.kept hk (by omega) (by omega), hr, hk.at h.q (by omega), hk.at h.got (by omega), hk.at h.stp (by omega), h.kept.trans hk (fun k hk e => by omega)⟩

/-- The round's beginning: the ask and its answer's variable are laid. -/
theorem PlaysIn.laid {B p b r rb n : Nat} {ws : List Int} {c why : Int} {w0 w : World} (h : PlaysIn B p b r rb n ws c why w0 w) (kind a v : Int) :
    AskIn w.heap.size (B + 1) (w.heap.size + 1) p b kind a v 0 ws c ((w.alloc (.cells #[.int .i64 kind, .int .i64 a, .int .i64 v] 39)).alloc (.cells #[.int .i64 0] 3)) := by
  have kk : Kept (fun _ => False) w ((w.alloc (.cells #[.int .i64 kind, .int .i64 a, .int .i64 v] 39)).alloc (.cells #[.int .i64 0] 3)) := ((Kept.refl _ _).alloc _).alloc _
  have l1 := lt_at h.mem.mem
  have l2 := lt_at h.mem.row
  exact ⟨alloc_off (alloc_at _ _), kk.at h.mbox (by simp), alloc_at1 _ _ _, h.mem.kept kk (by simp) (by simp), by omega, by omega⟩

/-- Behind the guard, and the stop's variable laid, and the reference's reason struck. -/
theorem PlaysIn.turn {B p b r rb n : Nat} {ws ws' : List Int} {c c' why : Int} {w0 w w2 : World} (h : PlaysIn B p b r rb n ws c why w0 w) (kind a v ans s0 s1 : Int)
    (hm : MemIn p b ws' c' w2) (hg : w2.heap[w.heap.size + 1]? = some (.cells #[.int .i64 ans] 3 (0, 0))) (hk : Kept (fun k => k = p ∨ k = b ∨ k = w.heap.size + 1) ((w.alloc (.cells #[.int .i64 kind, .int .i64 a, .int .i64 v] 39)).alloc (.cells #[.int .i64 0] 3)) w2) :
    Lie w0 B p b r rb w.heap.size w2.heap.size ∧ RefIn r rb ws c why w2 ∧ w2.heap[w.heap.size]? = some (.cells #[.int .i64 kind, .int .i64 a, .int .i64 v] 39 (0, 0)) ∧ Turn B p b r rb n w.heap.size w2.heap.size kind a v ans s0 s1 ws' ws c' c 0 w0 ((w2.setCell ⟨r, 2, none⟩ (.int .i64 0)).alloc (.cells #[.int .i64 s0, .int .i64 s1] 28)) := by
  have k1 : Kept (fun _ => False) w ((w.alloc (.cells #[.int .i64 kind, .int .i64 a, .int .i64 v] 39)).alloc (.cells #[.int .i64 0] 3)) := ((Kept.refl _ _).alloc _).alloc _
  have k2 : Kept (fun k => k = p ∨ k = b ∨ k = w.heap.size + 1) w w2 := (k1.mono (fun _ _ e => e.elim)).trans hk (fun _ _ e => e)
  have l1 := lt_at h.mem.mem
  have l2 := lt_at h.mem.row
  have l3 := lt_at h.ref.mem
  have l4 := lt_at h.ref.row
  have l5 := lt_at hg
  have l6 := h.lp
  have l7 := h.lb
  have l8 := h.lr
  have l9 := h.lrb
  have l10 := h.pr
  have l11 := h.br
  have l12 := h.prb
  have l13 := h.brb
  have l14 := h.base
  have hq := hk.at (show ((w.alloc (.cells #[.int .i64 kind, .int .i64 a, .int .i64 v] 39)).alloc (.cells #[.int .i64 0] 3)).heap[w.heap.size]? = some _ from alloc_off (alloc_at _ _)) (by omega)
  have k3 : Kept (fun k => k = r) w2 (w2.setCell ⟨r, 2, none⟩ (.int .i64 0)) := kept_counted (X := fun k => k = r) (Kept.refl _ _) rfl _ _
  have k5 : Kept (fun k => k = r) w2 ((w2.setCell ⟨r, 2, none⟩ (.int .i64 0)).alloc (.cells #[.int .i64 s0, .int .i64 s1] 28)) := k3.alloc _
  have hr2 := h.ref.kept k2 (by omega) (by omega)
  refine ⟨⟨l14, l6, l7, l8, l9, l10, l11, l12, l13, l3, l4, l5⟩, hr2, hq, ?_⟩
  exact ⟨k5.at (k2.at h.nbox (by omega)) (by omega), k5.at (k2.at h.mbox (by omega)) (by omega), hm.kept k5 (by omega) (by omega), (hr2.told 0).kept ((Kept.refl (fun _ => False) _).alloc _) (by simp) (by simp), k5.at hq (by omega), k5.at hg (by omega),
    alloc_at' _ (by simp [World.setCell]), (h.kept.trans k2 (fun k hk e => by omega)).trans k5 (fun k hk e => by omega)⟩

theorem Turn.ends {B p b r rb n Q T : Nat} {kind a v ans s0 s1 : Int} {ws : List Int} {c why : Int} {w0 w : World} (h : Turn B p b r rb n Q T kind a v ans s0 s1 ws ws c c why w0 w) (l : Lie w0 B p b r rb Q T) (hl : ws.length = n) : PlaysIn B p b r rb n ws c why w0 w :=
  ⟨h.nbox, h.mbox, h.mem, h.ref, hl, h.kept, l.base, l.lp, l.lb, l.lr, l.lrb, l.pr, l.br, l.prb, l.brb⟩

theorem Turn.drew {B p b r rb n Q T : Nat} {kind a v ans s0 s1 : Int} {ws rs : List Int} {c rc why : Int} {w0 w : World} (h : Turn B p b r rb n Q T kind a v ans s0 s1 ws rs c rc why w0 w) (m : Nat) : Turn B p b r rb n Q T kind a v ans s0 s1 ws rs c rc why w0 (w.drewN m) := by
  have kk : Kept (fun _ => False) w (w.drewN m) := ⟨rfl, rfl, rfl, Nat.le_refl _, fun _ _ _ => rfl⟩
  exact ⟨kk.at h.nbox (by simp), kk.at h.mbox (by simp), h.mem.kept kk (by simp) (by simp), h.ref.kept kk (by simp) (by simp), kk.at h.q (by simp), kk.at h.got (by simp), kk.at h.stp (by simp), h.kept.trans kk (fun _ _ e => e)⟩

/-- While all words are read at the end. -/
structure LastIn (B p b r rb n : Nat) (ws : List Int) (c rc why : Int) (w0 w : World) : Prop where
  nbox : w.heap[B]? = some (.cells #[.int .i64 n] 3 (0, 0))
  mbox : w.heap[B + 1]? = some (.cells #[.pointer (some ⟨p, 0, none⟩)] 22 (0, 0))
  mem : MemIn p b ws c w
  ref : RefIn r rb ws rc why w
  kept : Kept (fun _ => False) w0 w
  base : w0.heap.size = B
  lp : B + 1 < p
  pr : p < r
  prb : p < rb

theorem PlaysIn.last {B p b r rb n : Nat} {ws : List Int} {c why : Int} {w0 w : World} (h : PlaysIn B p b r rb n ws c why w0 w) : LastIn B p b r rb n ws c c why w0 w :=
  ⟨h.nbox, h.mbox, h.mem, h.ref, h.kept, h.base, h.lp, h.pr, h.prb⟩

theorem LastIn.moved {B p b r rb n : Nat} {ws : List Int} {c c' rc why : Int} {w0 w w' : World} (h : LastIn B p b r rb n ws c rc why w0 w) (hm : MemIn p b ws c' w') (hk : Kept (fun k => k = p) w w') : LastIn B p b r rb n ws c' rc why w0 w' := by
  have l1 := h.lp
  have l2 := h.pr
  have l3 := h.prb
  have l4 := h.base
  exact ⟨hk.at h.nbox (by omega), hk.at h.mbox (by omega), hm, h.ref.kept hk (by omega) (by omega), h.kept.trans hk (fun k hk e => by omega), l4, l1, l2, l3⟩

theorem LastIn.drew {B p b r rb n : Nat} {ws : List Int} {c rc why : Int} {w0 w : World} (h : LastIn B p b r rb n ws c rc why w0 w) : LastIn B p b r rb n ws c rc why w0 w.drew := by
  have kk : Kept (fun _ => False) w w.drew := (Kept.refl _ _).drew
  exact ⟨kk.at h.nbox (by simp), kk.at h.mbox (by simp), h.mem.kept kk (by simp) (by simp), h.ref.kept kk (by simp) (by simp), h.kept.trans kk (fun _ _ e => e), h.base, h.lp, h.pr, h.prb⟩

end Go.Proofs.Ytkejnoifcfeliaa
