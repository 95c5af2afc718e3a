/- A round of the statement on any calls: what it has made, and what each step leaves of it; no conditions. -/
import Derived.Test.YtckbimgoepcoaaaGuards
import Derived.Test.YtckbimgoepcoaaaTabs
import Derived.Deep.Draws
namespace Go.Proofs.Ytckbimgoepcoaaa
open Go.RowKit

def Out.why : Out → Int
  | none => 0
  | some (some (a, _)) => a
  | some none => 1
def Out.loc : Out → Int
  | none => 0
  | some (some (_, b)) => b
  | some none => 0
theorem told_is (o : Out) : o.told = .agg #[.int .i64 o.why, .int .i64 o.loc] := by rcases out_is o with rfl | ⟨a, b, rfl⟩ | rfl <;> rfl

/-- How a call ends: it is done, or it stops with a reason. -/
def Fair (o : Out) : Prop := o = .done ∨ ∃ c b, o = .halts c b ∧ c ≠ 0

theorem sane_set {d : Nat} {hs : List H} {a : Nat} {h : H} (hS : Sane d hs) (ha : a < hs.length) (h1 : h.nest ≤ d + 1) (h2 : h.mail < 256) : Sane (d + 1) (hs.set a h) := by
  intro i hi
  rw [hd_set _ _ _ _ ha]
  by_cases e : a = i
  · rw [if_pos e]; exact ⟨h1, h2⟩
  · rw [if_neg e]
    have := hS i (by simpa using hi)
    exact ⟨by omega, this.2⟩

theorem sane_more {d : Nat} {hs : List H} (hS : Sane d hs) : Sane (d + 1) hs := fun i hi => ⟨by have := (hS i hi).1; omega, (hS i hi).2⟩

theorem play_facts (kind a m : Int) (x : Bool) (d : Nat) (hs : List H) (hS : Sane d hs) : (play kind a m x hs).hs.length = hs.length ∧ Sane (d + 1) (play kind a m x hs).hs ∧ Fair (play kind a m x hs).o := by
  by_cases ha : 0 ≤ a ∧ a < (hs.length : Int)
  · obtain ⟨i, rfl⟩ : ∃ i : Nat, a = i := ⟨a.toNat, by omega⟩
    have hi : i < hs.length := by omega
    obtain ⟨s1, s2⟩ := hS i hi
    by_cases h1 : kind = 1
    · subst h1
      by_cases hn : (hd hs i).nest = 0
      · rw [play1a hi hn]; exact ⟨by simp, sane_set hS hi (by simp; omega) s2, .inl rfl⟩
      · rw [play1b hi hn]; exact ⟨rfl, sane_more hS, .inr ⟨_, _, rfl, by decide⟩⟩
    by_cases h2 : kind = 2
    · subst h2; rw [play2 hi]; exact ⟨by simp, sane_set hS hi (by simp; omega) s2, .inl rfl⟩
    by_cases h3 : kind = 3
    · subst h3
      by_cases hn : (hd hs i).nest = 0
      · rw [play3a hi hn]; exact ⟨rfl, sane_more hS, .inr ⟨_, _, rfl, by decide⟩⟩
      · rw [play3b (n := (hd hs i).nest - 1) hi (by omega)]; exact ⟨by simp, sane_set hS hi (by simp; omega) s2, .inl rfl⟩
    by_cases h4 : kind = 4
    · subst h4
      by_cases hm : 0 ≤ m ∧ m ≤ 7
      · obtain ⟨k, rfl⟩ : ∃ k : Nat, m = k := ⟨m.toNat, by omega⟩
        rw [play4a hi (by omega)]; exact ⟨by simp, sane_set hS hi (by simp; omega) (mset_lt s2 (by omega)), .inl rfl⟩
      · rw [play4b hi (by omega)]; exact ⟨rfl, sane_more hS, .inr ⟨_, _, rfl, by decide⟩⟩
    by_cases h5 : kind = 5
    · subst h5
      by_cases hm : (hd hs i).mail = 0
      · rw [play5a hi hm]; exact ⟨rfl, sane_more hS, .inl rfl⟩
      · rw [play5b hi hm]; exact ⟨by simp, sane_set hS hi (by simp; omega) (mclr_lt s2), .inl rfl⟩
    rw [play0 hi (by omega)]; exact ⟨rfl, sane_more hS, .inl rfl⟩
  · rw [play_gone (by omega)]; exact ⟨rfl, sane_more hS, .inr ⟨_, _, rfl, by decide⟩⟩

/-- What was kept of a flag where a push is open. -/
def Wrel (hs : List H) (ws : List Bool) : Prop := ws.length = hs.length ∧ ∀ i, i < hs.length → (hd hs i).nest ≠ 0 → wt ws i = (hd hs i).on

theorem wt_set {ws : List Bool} {a b : Nat} {v : Bool} (ha : a < ws.length) : wt (ws.set a v) b = if a = b then v else wt ws b := by
  by_cases e : a = b
  · subst e; simp [wt, ha]
  · simp [wt, e, List.getD]

theorem Wrel.set {hs : List H} {ws : List Bool} (h : Wrel hs ws) {a : Nat} {x : H} (ha : a < hs.length) (hx : x.nest ≠ 0 → wt ws a = x.on) : Wrel (hs.set a x) ws := by
  refine ⟨by simpa using h.1, fun i hi hn => ?_⟩
  rw [hd_set _ _ _ _ ha] at hn ⊢
  by_cases e : a = i
  · subst e; rw [if_pos rfl] at hn ⊢; exact hx hn
  · rw [if_neg e] at hn ⊢; exact h.2 i (by simpa using hi) hn

theorem Wrel.push {hs : List H} {ws : List Bool} (h : Wrel hs ws) {a : Nat} {x : H} (ha : a < hs.length) : Wrel (hs.set a x) (ws.set a x.on) := by
  refine ⟨by simpa using h.1, fun i hi hn => ?_⟩
  rw [wt_set (by rw [h.1]; exact ha)]
  rw [hd_set _ _ _ _ ha] at hn ⊢
  by_cases e : a = i
  · subst e; rw [if_pos rfl, if_pos rfl]
  · rw [if_neg e] at hn ⊢; rw [if_neg e]; exact h.2 i (by simpa using hi) hn

/-- The blocks lie apart. -/
structure Geo (B p b O W N M : Nat) : Prop where
  lp : B + 1 < p
  lb : B + 1 < b
  pO : p < O
  pW : p < W
  pN : p < N
  pM : p < M
  bO : b < O
  bW : b < W
  bN : b < N
  bM : b < M
  OW : ¬ O = W
  ON : ¬ O = N
  OM : ¬ O = M
  WN : ¬ W = N
  WM : ¬ W = M
  NM : ¬ N = M

/-- What the statement has made: the number and the harts in their variables, the harts, its own tables. -/
structure PlaysIn (B p b O W N M n : Nat) (hs : List H) (ws : List Bool) (w0 w : World) : Prop where
  nbox : w.heap[B]? = some (.cells #[.int .i64 n] 3 (0, 0))
  xbox : w.heap[B + 1]? = some (.cells #[.pointer (some ⟨p, 0, none⟩)] 22 (0, 0))
  harts : HartsIn p b hs w
  on : w.heap[O]? = some (.cells (onRow hs).toArray 4 (0, 0))
  was : w.heap[W]? = some (.cells (wasRow ws).toArray 4 (0, 0))
  nest : w.heap[N]? = some (.cells (nestRow hs).toArray 3 (0, 0))
  mail : w.heap[M]? = some (.cells (boxRow hs).toArray 41 (0, 0))
  len : hs.length = n
  rel : Wrel hs ws
  kept : Kept (fun _ => False) w0 w
  base : w0.heap.size = B

theorem PlaysIn.still {B p b O W N M n : Nat} {hs : List H} {ws : List Bool} {w0 w w' : World} (h : PlaysIn B p b O W N M n hs ws w0 w) (hk : Kept (fun _ => False) w w') : PlaysIn B p b O W N M n hs ws w0 w' :=
  ⟨hk.at h.nbox (by simp), hk.at h.xbox (by simp), h.harts.kept hk (by simp) (by simp), hk.at h.on (by simp), hk.at h.was (by simp), hk.at h.nest (by simp), hk.at h.mail (by simp), h.len, h.rel, h.kept.trans hk (fun _ _ e => e), h.base⟩

/-- In the middle of a round: the call in block Q, what was taken behind it, what was told in block T, what is wanted behind it. -/
structure Turn (B p b O W N M n Q T : Nat) (kind a m : Int) (x : Bool) (got : Int) (took : Bool) (s0 s1 t0 t1 : Int) (hs : List H) (lo lw ln lm : List Value) (w0 w : World) : Prop where
  nbox : w.heap[B]? = some (.cells #[.int .i64 n] 3 (0, 0))
  xbox : w.heap[B + 1]? = some (.cells #[.pointer (some ⟨p, 0, none⟩)] 22 (0, 0))
  harts : HartsIn p b hs w
  on : w.heap[O]? = some (.cells lo.toArray 4 (0, 0))
  was : w.heap[W]? = some (.cells lw.toArray 4 (0, 0))
  nest : w.heap[N]? = some (.cells ln.toArray 3 (0, 0))
  mail : w.heap[M]? = some (.cells lm.toArray 41 (0, 0))
  q : w.heap[Q]? = some (.cells #[.int .i64 kind, .int .i64 a, .int .i64 m, .bool x] 39 (0, 0))
  got : w.heap[Q + 1]? = some (.cells #[.int .i64 got] 3 (0, 0))
  took : w.heap[Q + 2]? = some (.cells #[.bool took] 4 (0, 0))
  stp : w.heap[T]? = some (.cells #[.int .i64 s0, .int .i64 s1] 27 (0, 0))
  wnt : w.heap[T + 1]? = some (.cells #[.int .i64 t0, .int .i64 t1] 27 (0, 0))
  kept : Kept (fun _ => False) w0 w

structure Lie (w0 : World) (B p b O W N M Q T : Nat) : Prop where
  base : w0.heap.size = B
  geo : Geo B p b O W N M
  OQ : O < Q
  WQ : W < Q
  NQ : N < Q
  MQ : M < Q
  QT : Q + 2 < T

section
variable {B p b O W N M n Q T : Nat} {kind a m : Int} {x : Bool} {got : Int} {took : Bool} {s0 s1 t0 t1 : Int} {hs : List H} {lo lw ln lm : List Value} {w0 w : World}

theorem Turn.other (h : Turn B p b O W N M n Q T kind a m x got took s0 s1 t0 t1 hs lo lw ln lm w0 w) (l : Lie w0 B p b O W N M Q T) {w' : World} {z : Nat} (hk : Kept (fun k => k = z) w w') (hz : z = O ∨ z = W ∨ z = N ∨ z = M ∨ z = T + 1) :
    w'.heap[B]? = some (.cells #[.int .i64 n] 3 (0, 0)) ∧ w'.heap[B + 1]? = some (.cells #[.pointer (some ⟨p, 0, none⟩)] 22 (0, 0)) ∧ HartsIn p b hs w' ∧
    w'.heap[Q]? = some (.cells #[.int .i64 kind, .int .i64 a, .int .i64 m, .bool x] 39 (0, 0)) ∧ w'.heap[Q + 1]? = some (.cells #[.int .i64 got] 3 (0, 0)) ∧ w'.heap[Q + 2]? = some (.cells #[.bool took] 4 (0, 0)) ∧
    w'.heap[T]? = some (.cells #[.int .i64 s0, .int .i64 s1] 27 (0, 0)) ∧ Kept (fun _ => False) w0 w' := by
  obtain ⟨lB, ⟨g1, g2, g3, g4, g5, g6, g7, g8, g9, g10, g11, g12, g13, g14, g15, g16⟩, l1, l2, l3, l4, l5⟩ := l
  exact ⟨hk.at h.nbox (by omega), hk.at h.xbox (by omega), h.harts.kept hk (by omega) (by omega), hk.at h.q (by omega), hk.at h.got (by omega), hk.at h.took (by omega), hk.at h.stp (by omega), h.kept.trans hk (fun k hk e => by omega)⟩

theorem Turn.putOn (h : Turn B p b O W N M n Q T kind a m x got took s0 s1 t0 t1 hs lo lw ln lm w0 w) (l : Lie w0 B p b O W N M Q T) (i : Nat) (v : Value) : Turn B p b O W N M n Q T kind a m x got took s0 s1 t0 t1 hs (lo.set i v) lw ln lm w0 (w.setCell ⟨O, i, none⟩ v) := by
  have kk : Kept (fun k => k = O) w (w.setCell ⟨O, i, none⟩ v) := kept_set (X := fun k => k = O) (Kept.refl _ _) rfl _ _
  obtain ⟨e1, e2, e3, e4, e5, e6, e7, e8⟩ := h.other l kk (.inl rfl)
  obtain ⟨lB, ⟨g1, g2, g3, g4, g5, g6, g7, g8, g9, g10, g11, g12, g13, g14, g15, g16⟩, l1, l2, l3, l4, l5⟩ := l
  exact ⟨e1, e2, e3, (set_at h.on i v).trans (by simp), kk.at h.was (by omega), kk.at h.nest (by omega), kk.at h.mail (by omega), e4, e5, e6, e7, kk.at h.wnt (by omega), e8⟩
theorem Turn.putWas (h : Turn B p b O W N M n Q T kind a m x got took s0 s1 t0 t1 hs lo lw ln lm w0 w) (l : Lie w0 B p b O W N M Q T) (i : Nat) (v : Value) : Turn B p b O W N M n Q T kind a m x got took s0 s1 t0 t1 hs lo (lw.set i v) ln lm w0 (w.setCell ⟨W, i, none⟩ v) := by
  have kk : Kept (fun k => k = W) w (w.setCell ⟨W, i, none⟩ v) := kept_set (X := fun k => k = W) (Kept.refl _ _) rfl _ _
  obtain ⟨e1, e2, e3, e4, e5, e6, e7, e8⟩ := h.other l kk (.inr (.inl rfl))
  obtain ⟨lB, ⟨g1, g2, g3, g4, g5, g6, g7, g8, g9, g10, g11, g12, g13, g14, g15, g16⟩, l1, l2, l3, l4, l5⟩ := l
  exact ⟨e1, e2, e3, kk.at h.on (by omega), (set_at h.was i v).trans (by simp), kk.at h.nest (by omega), kk.at h.mail (by omega), e4, e5, e6, e7, kk.at h.wnt (by omega), e8⟩
theorem Turn.putNest (h : Turn B p b O W N M n Q T kind a m x got took s0 s1 t0 t1 hs lo lw ln lm w0 w) (l : Lie w0 B p b O W N M Q T) (i : Nat) (v : Value) : Turn B p b O W N M n Q T kind a m x got took s0 s1 t0 t1 hs lo lw (ln.set i v) lm w0 (w.setCell ⟨N, i, none⟩ v) := by
  have kk : Kept (fun k => k = N) w (w.setCell ⟨N, i, none⟩ v) := kept_set (X := fun k => k = N) (Kept.refl _ _) rfl _ _
  obtain ⟨e1, e2, e3, e4, e5, e6, e7, e8⟩ := h.other l kk (.inr (.inr (.inl rfl)))
  obtain ⟨lB, ⟨g1, g2, g3, g4, g5, g6, g7, g8, g9, g10, g11, g12, g13, g14, g15, g16⟩, l1, l2, l3, l4, l5⟩ := l
  exact ⟨e1, e2, e3, kk.at h.on (by omega), kk.at h.was (by omega), (set_at h.nest i v).trans (by simp), kk.at h.mail (by omega), e4, e5, e6, e7, kk.at h.wnt (by omega), e8⟩
theorem Turn.putMail (h : Turn B p b O W N M n Q T kind a m x got took s0 s1 t0 t1 hs lo lw ln lm w0 w) (l : Lie w0 B p b O W N M Q T) (i : Nat) (v : Value) : Turn B p b O W N M n Q T kind a m x got took s0 s1 t0 t1 hs lo lw ln (lm.set i v) w0 (w.setCell ⟨M, i, none⟩ v) := by
  have kk : Kept (fun k => k = M) w (w.setCell ⟨M, i, none⟩ v) := kept_set (X := fun k => k = M) (Kept.refl _ _) rfl _ _
  obtain ⟨e1, e2, e3, e4, e5, e6, e7, e8⟩ := h.other l kk (.inr (.inr (.inr (.inl rfl))))
  obtain ⟨lB, ⟨g1, g2, g3, g4, g5, g6, g7, g8, g9, g10, g11, g12, g13, g14, g15, g16⟩, l1, l2, l3, l4, l5⟩ := l
  exact ⟨e1, e2, e3, kk.at h.on (by omega), kk.at h.was (by omega), kk.at h.nest (by omega), (set_at h.mail i v).trans (by simp), e4, e5, e6, e7, kk.at h.wnt (by omega), e8⟩
theorem Turn.putWant (h : Turn B p b O W N M n Q T kind a m x got took s0 s1 t0 t1 hs lo lw ln lm w0 w) (l : Lie w0 B p b O W N M Q T) (u v : Int) : Turn B p b O W N M n Q T kind a m x got took s0 s1 u v hs lo lw ln lm w0 ((w.setCell ⟨T + 1, 0, none⟩ (.int .i64 u)).setCell ⟨T + 1, 1, none⟩ (.int .i64 v)) := by
  have kk : Kept (fun k => k = T + 1) w ((w.setCell ⟨T + 1, 0, none⟩ (.int .i64 u)).setCell ⟨T + 1, 1, none⟩ (.int .i64 v)) := kept_set (X := fun k => k = T + 1) (kept_set (X := fun k => k = T + 1) (Kept.refl _ _) rfl _ _) rfl _ _
  obtain ⟨e1, e2, e3, e4, e5, e6, e7, e8⟩ := h.other l kk (.inr (.inr (.inr (.inr rfl))))
  obtain ⟨lB, ⟨g1, g2, g3, g4, g5, g6, g7, g8, g9, g10, g11, g12, g13, g14, g15, g16⟩, l1, l2, l3, l4, l5⟩ := l
  exact ⟨e1, e2, e3, kk.at h.on (by omega), kk.at h.was (by omega), kk.at h.nest (by omega), kk.at h.mail (by omega), e4, e5, e6, e7, set_at (set_at h.wnt 0 _) 1 _, e8⟩
theorem Turn.still (h : Turn B p b O W N M n Q T kind a m x got took s0 s1 t0 t1 hs lo lw ln lm w0 w) {w' : World} (kk : Kept (fun _ => False) w w') : Turn B p b O W N M n Q T kind a m x got took s0 s1 t0 t1 hs lo lw ln lm w0 w' :=
  ⟨kk.at h.nbox (by simp), kk.at h.xbox (by simp), h.harts.kept kk (by simp) (by simp), kk.at h.on (by simp), kk.at h.was (by simp), kk.at h.nest (by simp), kk.at h.mail (by simp), kk.at h.q (by simp), kk.at h.got (by simp), kk.at h.took (by simp), kk.at h.stp (by simp), kk.at h.wnt (by simp), h.kept.trans kk (fun _ _ e => e)⟩

theorem Turn.ends {ws : List Bool} (h : Turn B p b O W N M n Q T kind a m x got took s0 s1 t0 t1 hs (onRow hs) (wasRow ws) (nestRow hs) (boxRow hs) w0 w) (l : Lie w0 B p b O W N M Q T) (hl : hs.length = n) (hr : Wrel hs ws) : PlaysIn B p b O W N M n hs ws w0 w :=
  ⟨h.nbox, h.xbox, h.harts, h.on, h.was, h.nest, h.mail, hl, hr, h.kept, l.base⟩
end

/-- The round's beginning: the call and the variables for what is taken are laid. -/
def laidW (w : World) (kind a m : Int) (x : Bool) : World := ((w.alloc (.cells #[.int .i64 kind, .int .i64 a, .int .i64 m, .bool x] 39)).alloc (.cells #[.int .i64 0] 3)).alloc (.cells #[.bool false] 4)

theorem laidW_kept (w : World) (kind a m : Int) (x : Bool) : Kept (fun _ => False) w (laidW w kind a m x) := (((Kept.refl _ _).alloc _).alloc _).alloc _
theorem laidW_size (w : World) (kind a m : Int) (x : Bool) : (laidW w kind a m x).heap.size = w.heap.size + 3 := by simp [laidW]

theorem PlaysIn.laid {B p b O W N M n : Nat} {hs : List H} {ws : List Bool} {w0 w : World} (h : PlaysIn B p b O W N M n hs ws w0 w) (kind a m : Int) (x : Bool) :
    AskIn w.heap.size (B + 1) (w.heap.size + 1) (w.heap.size + 2) p b kind a m x hs (laidW w kind a m x) := by
  have kk := laidW_kept w kind a m x
  have l1 := lt_at h.harts.mem
  have l2 := lt_at h.harts.row
  exact ⟨alloc_off (alloc_off (alloc_at _ _)), kk.at h.xbox (by simp), alloc_off (alloc_at1 _ _ _), alloc_at' _ (by simp), h.harts.kept kk (by simp) (by simp), by omega, by omega, by omega, by omega, by omega⟩

theorem PlaysIn.turn {B p b O W N M n : Nat} {hs hs' : List H} {ws : List Bool} {w0 w w2 : World} (h : PlaysIn B p b O W N M n hs ws w0 w) (g : Geo B p b O W N M) (kind a m : Int) (x : Bool) (got : Int) (took : Bool) (s0 s1 : Int)
    (hh : HartsIn p b hs' w2) (hg : w2.heap[w.heap.size + 1]? = some (.cells #[.int .i64 got] 3 (0, 0))) (ht : w2.heap[w.heap.size + 2]? = some (.cells #[.bool took] 4 (0, 0)))
    (hk : Kept (fun k => k = b ∨ k = w.heap.size + 1 ∨ k = w.heap.size + 2) (laidW w kind a m x) w2) :
    Lie w0 B p b O W N M w.heap.size w2.heap.size ∧ Turn B p b O W N M n w.heap.size w2.heap.size kind a m x got took s0 s1 0 0 hs' (onRow hs) (wasRow ws) (nestRow hs) (boxRow hs) w0 ((w2.alloc (.cells #[.int .i64 s0, .int .i64 s1] 27)).alloc (.cells #[.int .i64 0, .int .i64 0] 27)) := by
  have k1 := laidW_kept w kind a m x
  have k2 : Kept (fun k => k = b ∨ k = w.heap.size + 1 ∨ k = w.heap.size + 2) w w2 := (k1.mono (fun _ _ e => e.elim)).trans hk (fun _ _ e => e)
  have l1 := lt_at h.on
  have l2 := lt_at h.was
  have l3 := lt_at h.nest
  have l4 := lt_at h.mail
  have l5 := lt_at ht
  have hq : (laidW w kind a m x).heap[w.heap.size]? = some (.cells #[.int .i64 kind, .int .i64 a, .int .i64 m, .bool x] 39 (0, 0)) := alloc_off (alloc_off (alloc_at _ _))
  have lB := h.base
  have k5 : Kept (fun _ => False) w2 ((w2.alloc (.cells #[.int .i64 s0, .int .i64 s1] 27)).alloc (.cells #[.int .i64 0, .int .i64 0] 27)) := ((Kept.refl _ _).alloc _).alloc _
  refine ⟨⟨lB, g, l1, l2, l3, l4, l5⟩, ?_⟩
  obtain ⟨g1, g2, g3, g4, g5, g6, g7, g8, g9, g10, g11, g12, g13, g14, g15, g16⟩ := g
  exact ⟨k5.at (k2.at h.nbox (by omega)) (by simp), k5.at (k2.at h.xbox (by omega)) (by simp), hh.kept k5 (by simp) (by simp), k5.at (k2.at h.on (by omega)) (by simp), k5.at (k2.at h.was (by omega)) (by simp), k5.at (k2.at h.nest (by omega)) (by simp), k5.at (k2.at h.mail (by omega)) (by simp),
    k5.at (hk.at hq (by omega)) (by simp), k5.at hg (by simp), k5.at ht (by simp), alloc_off (alloc_at _ _), alloc_at1 _ _ _, (h.kept.trans k2 (fun k hk e => by omega)).trans k5 (fun _ _ e => e)⟩

end Go.Proofs.Ytckbimgoepcoaaa
