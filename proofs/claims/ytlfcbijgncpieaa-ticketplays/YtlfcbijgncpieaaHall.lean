/- What the statement on any tries has made, and what each step leaves of it; no conditions. -/
import Derived.Test.YtlfcbijgncpieaaPlay
namespace Go.Proofs.Ytlfcbijgncpieaa
open Go.RowKit

def ints (l : List Int) : List Value := l.map (Value.int .i64)
theorem ints_set (l : List Int) (i : Nat) (v : Int) : ints (l.set i v) = (ints l).set i (.int .i64 v) := by simp [ints, List.map_set]
theorem ints_get {l : List Int} {i : Nat} {v : Int} (h : l[i]? = some v) : (ints l)[i]? = some (.int .i64 v) := by simp [ints, h]

theorem try_type {q : Nat} {a s t : Int} {w : World} (h : TryIn q a s t w) {cs : Array Value} {ty : TypeId} (hc : w.heap[q]? = some (.cells cs ty (0, 0))) : ty = 49 := by
  have h' : w.heap[q]? = some (.cells #[.int .i64 a, .int .i64 s, .int .i64 t] 49 (0, 0)) := h
  rw [h'] at hc
  simp at hc
  exact hc.2.symm

/-- The asks, the memory and the tries, each in its variable. -/
structure Core (B : Nat) (lv v : Value) (qs : List Nat) (ts : List T) (l : Lk) (c : Int) (w0 w : World) : Prop where
  lbox : w.heap[B]? = some (.cells #[lv] 30 (0, 0))
  mem : MemIn (B + 2) (B + 1) l.ws c w
  mbox : w.heap[B + 3]? = some (.cells #[.pointer (some ⟨B + 2, 0, none⟩)] 22 (0, 0))
  vbox : w.heap[B + 4]? = some (.cells #[v] 32 (0, 0))
  tries : TriesIn (B + 8) v qs ts w
  kept : Kept (fun _ => False) w0 w
  base : w0.heap.size = B

theorem Core.still {B : Nat} {lv v : Value} {qs : List Nat} {ts : List T} {l : Lk} {c : Int} {w0 w w' : World} (h : Core B lv v qs ts l c w0 w) (hk : Kept (fun _ => False) w w') : Core B lv v qs ts l c w0 w' :=
  ⟨hk.at h.lbox (by simp), h.mem.kept hk (by simp) (by simp), hk.at h.mbox (by simp), hk.at h.vbox (by simp), h.tries.kept hk (fun _ x => x.elim), h.kept.trans hk (fun _ _ e => e), h.base⟩

/-- Another block is written. -/
theorem Core.off {B z : Nat} {lv v : Value} {qs : List Nat} {ts : List T} {l : Lk} {c : Int} {w0 w w' : World} {cs : Array Value} {t : TypeId} (h : Core B lv v qs ts l c w0 w) (hk : Kept (fun k => k = z) w w') (hz : B + 5 ≤ z) (hc : w.heap[z]? = some (.cells cs t (0, 0))) (h1 : t ≠ 49) (h2 : t ≠ 24) : Core B lv v qs ts l c w0 w' := by
  have hb := h.base
  refine ⟨hk.at h.lbox (by omega), h.mem.kept hk (by omega) (by omega), hk.at h.mbox (by omega), hk.at h.vbox (by omega), ?_, h.kept.trans hk (fun k hk' e => by omega), h.base⟩
  refine ⟨own_kept h.tries.own hk (fun k e x => ?_), h.tries.len, h.tries.low, fun i hi => hk.at (h.tries.each i hi) (fun x => ?_), h.tries.apart⟩
  · subst x
    exact row_off h.tries.own hc h2 e
  · subst x
    exact h1 (try_type (h.tries.each i hi) hc)

/-- One try steps, or leaves. -/
theorem Core.step {B j gb : Nat} {lv v : Value} {qs : List Nat} {ts : List T} {l l' : Lk} {c c' : Int} {w0 w w' : World} {x : T} {cs : Array Value} {t : TypeId} (h : Core B lv v qs ts l c w0 w) (hj : j < qs.length) (hm : MemIn (B + 2) (B + 1) l'.ws c' w') (hq : TryIn (qd qs j) x.a x.s x.t w') (hk : Kept (fun k => k = B + 2 ∨ k = B + 1 ∨ k = qd qs j ∨ k = gb) w w') (hz : B + 5 ≤ gb) (hc : w.heap[gb]? = some (.cells cs t (0, 0))) (h1 : t ≠ 49) (h2 : t ≠ 24) : Core B lv v qs (ts.set j x) l' c' w0 w' := by
  have hb := h.base
  have hl := h.tries.low j hj
  refine ⟨hk.at h.lbox (by omega), hm, hk.at h.mbox (by omega), hk.at h.vbox (by omega), ?_, h.kept.trans hk (fun k hk' e => by omega), h.base⟩
  refine ⟨own_kept h.tries.own hk (fun k e y => ?_), by simp [h.tries.len], h.tries.low, fun i hi => ?_, h.tries.apart⟩
  · have := (h.tries.own.lt k e).1
    rcases y with rfl | rfl | rfl | rfl
    · omega
    · omega
    · exact row_off h.tries.own (h.tries.each j hj) (by decide) e
    · exact row_off h.tries.own hc h2 e
  · by_cases e : j = i
    · subst e
      rw [td_self (by rw [h.tries.len]; exact hj)]
      exact hq
    · rw [td_other _ e]
      refine hk.at (h.tries.each i hi) (fun y => ?_)
      have hl' := h.tries.low i hi
      rcases y with y | y | y | y
      · omega
      · omega
      · exact e (h.tries.apart i j hi hj y).symm
      · subst y
        exact h1 (try_type (h.tries.each i hi) hc)

/-- Where the blocks lie. -/
structure Lie (w0 : World) (B O K S X Y I J G Z U : Nat) : Prop where
  base : w0.heap.size = B
  o1 : B + 5 ≤ O
  o2 : O < B + 8
  k1 : B + 5 ≤ K
  k2 : K < B + 8
  s1 : B + 5 ≤ S
  s2 : S < B + 8
  ok : ¬ O = K
  os : ¬ O = S
  ks : ¬ K = S
  x : B + 8 ≤ X
  y : Y = X + 1
  i : Y < I
  j : I < J
  g : G = J + 1
  z : Z = J + 2
  u : Z < U

/-- In the middle of a round. -/
structure Turn (B O K S X Y I J G Z U r j : Nat) (lv v : Value) (qs : List Nat) (ts : List T) (l : Lk) (c : Int) (la lk ls lx ly : List Int) (got : Bool) (z0 z1 u0 u1 : Int) (w0 w : World) : Prop where
  core : Core B lv v qs ts l c w0 w
  fO : w.heap[O]? = some (.cells (ints la).toArray 3 (0, 0))
  fK : w.heap[K]? = some (.cells (ints lk).toArray 3 (0, 0))
  fS : w.heap[S]? = some (.cells (ints ls).toArray 3 (0, 0))
  fX : w.heap[X]? = some (.cells (ints lx).toArray 34 (0, 0))
  fY : w.heap[Y]? = some (.cells (ints ly).toArray 34 (0, 0))
  fI : w.heap[I]? = some (.cells #[.int .i64 (r : Int)] 3 (0, 0))
  fJ : w.heap[J]? = some (.cells #[.int .i64 (j : Int)] 3 (0, 0))
  fG : w.heap[G]? = some (.cells #[.bool got] 4 (0, 0))
  fZ : w.heap[Z]? = some (.cells #[.int .i64 z0, .int .i64 z1] 38 (0, 0))
  fU : w.heap[U]? = some (.cells #[.int .i64 u0, .int .i64 u1] 38 (0, 0))

section
variable {B O K S X Y I J G Z U r j : Nat} {lv v : Value} {qs : List Nat} {ts : List T} {l : Lk} {c : Int} {la lk ls lx ly : List Int} {got : Bool} {z0 z1 u0 u1 : Int} {w0 w : World}

theorem Turn.still (h : Turn B O K S X Y I J G Z U r j lv v qs ts l c la lk ls lx ly got z0 z1 u0 u1 w0 w) {w' : World} (kk : Kept (fun _ => False) w w') : Turn B O K S X Y I J G Z U r j lv v qs ts l c la lk ls lx ly got z0 z1 u0 u1 w0 w' :=
  ⟨h.core.still kk, kk.at h.fO (by simp), kk.at h.fK (by simp), kk.at h.fS (by simp), kk.at h.fX (by simp), kk.at h.fY (by simp), kk.at h.fI (by simp), kk.at h.fJ (by simp), kk.at h.fG (by simp), kk.at h.fZ (by simp), kk.at h.fU (by simp)⟩

theorem Turn.putO (h : Turn B O K S X Y I J G Z U r j lv v qs ts l c la lk ls lx ly got z0 z1 u0 u1 w0 w) (L : Lie w0 B O K S X Y I J G Z U) (i : Nat) (n : Int) : Turn B O K S X Y I J G Z U r j lv v qs ts l c (la.set i n) lk ls lx ly got z0 z1 u0 u1 w0 (w.setCell ⟨O, i, none⟩ (.int .i64 n)) := by
  have kk : Kept (fun k => k = O) w (w.setCell ⟨O, i, none⟩ (.int .i64 n)) := Kept.setCell (X := fun k => k = O) (Kept.refl _ _) (fun _ => rfl) _
  obtain ⟨lB, l1, l2, l3, l4, l5, l6, l7, l8, l9, l10, l11, l12, l13, l14, l15, l16⟩ := L
  exact ⟨h.core.off kk (by omega) h.fO (by decide) (by decide), (set_at h.fO i _).trans (by rw [ints_set]; simp), kk.at h.fK (by omega), kk.at h.fS (by omega), kk.at h.fX (by omega), kk.at h.fY (by omega), kk.at h.fI (by omega), kk.at h.fJ (by omega), kk.at h.fG (by omega), kk.at h.fZ (by omega), kk.at h.fU (by omega)⟩
theorem Turn.putK (h : Turn B O K S X Y I J G Z U r j lv v qs ts l c la lk ls lx ly got z0 z1 u0 u1 w0 w) (L : Lie w0 B O K S X Y I J G Z U) (i : Nat) (n : Int) : Turn B O K S X Y I J G Z U r j lv v qs ts l c la (lk.set i n) ls lx ly got z0 z1 u0 u1 w0 (w.setCell ⟨K, i, none⟩ (.int .i64 n)) := by
  have kk : Kept (fun k => k = K) w (w.setCell ⟨K, i, none⟩ (.int .i64 n)) := Kept.setCell (X := fun k => k = K) (Kept.refl _ _) (fun _ => rfl) _
  obtain ⟨lB, l1, l2, l3, l4, l5, l6, l7, l8, l9, l10, l11, l12, l13, l14, l15, l16⟩ := L
  exact ⟨h.core.off kk (by omega) h.fK (by decide) (by decide), kk.at h.fO (by omega), (set_at h.fK i _).trans (by rw [ints_set]; simp), kk.at h.fS (by omega), kk.at h.fX (by omega), kk.at h.fY (by omega), kk.at h.fI (by omega), kk.at h.fJ (by omega), kk.at h.fG (by omega), kk.at h.fZ (by omega), kk.at h.fU (by omega)⟩
theorem Turn.putX (h : Turn B O K S X Y I J G Z U r j lv v qs ts l c la lk ls lx ly got z0 z1 u0 u1 w0 w) (L : Lie w0 B O K S X Y I J G Z U) (i : Nat) (n : Int) : Turn B O K S X Y I J G Z U r j lv v qs ts l c la lk ls (lx.set i n) ly got z0 z1 u0 u1 w0 (w.setCell ⟨X, i, none⟩ (.int .i64 n)) := by
  have kk : Kept (fun k => k = X) w (w.setCell ⟨X, i, none⟩ (.int .i64 n)) := Kept.setCell (X := fun k => k = X) (Kept.refl _ _) (fun _ => rfl) _
  obtain ⟨lB, l1, l2, l3, l4, l5, l6, l7, l8, l9, l10, l11, l12, l13, l14, l15, l16⟩ := L
  exact ⟨h.core.off kk (by omega) h.fX (by decide) (by decide), kk.at h.fO (by omega), kk.at h.fK (by omega), kk.at h.fS (by omega), (set_at h.fX i _).trans (by rw [ints_set]; simp), kk.at h.fY (by omega), kk.at h.fI (by omega), kk.at h.fJ (by omega), kk.at h.fG (by omega), kk.at h.fZ (by omega), kk.at h.fU (by omega)⟩
theorem Turn.putY (h : Turn B O K S X Y I J G Z U r j lv v qs ts l c la lk ls lx ly got z0 z1 u0 u1 w0 w) (L : Lie w0 B O K S X Y I J G Z U) (i : Nat) (n : Int) : Turn B O K S X Y I J G Z U r j lv v qs ts l c la lk ls lx (ly.set i n) got z0 z1 u0 u1 w0 (w.setCell ⟨Y, i, none⟩ (.int .i64 n)) := by
  have kk : Kept (fun k => k = Y) w (w.setCell ⟨Y, i, none⟩ (.int .i64 n)) := Kept.setCell (X := fun k => k = Y) (Kept.refl _ _) (fun _ => rfl) _
  obtain ⟨lB, l1, l2, l3, l4, l5, l6, l7, l8, l9, l10, l11, l12, l13, l14, l15, l16⟩ := L
  exact ⟨h.core.off kk (by omega) h.fY (by decide) (by decide), kk.at h.fO (by omega), kk.at h.fK (by omega), kk.at h.fS (by omega), kk.at h.fX (by omega), (set_at h.fY i _).trans (by rw [ints_set]; simp), kk.at h.fI (by omega), kk.at h.fJ (by omega), kk.at h.fG (by omega), kk.at h.fZ (by omega), kk.at h.fU (by omega)⟩
theorem Turn.putZ (h : Turn B O K S X Y I J G Z U r j lv v qs ts l c la lk ls lx ly got z0 z1 u0 u1 w0 w) (L : Lie w0 B O K S X Y I J G Z U) (a b : Int) : Turn B O K S X Y I J G Z U r j lv v qs ts l c la lk ls lx ly got a b u0 u1 w0 ((w.setCell ⟨Z, 0, none⟩ (.int .i64 a)).setCell ⟨Z, 1, none⟩ (.int .i64 b)) := by
  have kk : Kept (fun k => k = Z) w ((w.setCell ⟨Z, 0, none⟩ (.int .i64 a)).setCell ⟨Z, 1, none⟩ (.int .i64 b)) := Kept.setCell (X := fun k => k = Z) (Kept.setCell (X := fun k => k = Z) (Kept.refl _ _) (fun _ => rfl) _) (fun _ => rfl) _
  obtain ⟨lB, l1, l2, l3, l4, l5, l6, l7, l8, l9, l10, l11, l12, l13, l14, l15, l16⟩ := L
  exact ⟨h.core.off kk (by omega) h.fZ (by decide) (by decide), kk.at h.fO (by omega), kk.at h.fK (by omega), kk.at h.fS (by omega), kk.at h.fX (by omega), kk.at h.fY (by omega), kk.at h.fI (by omega), kk.at h.fJ (by omega), kk.at h.fG (by omega), set_at (set_at h.fZ 0 _) 1 _, kk.at h.fU (by omega)⟩
end

/-- Between rounds: the asks' number in block I. -/
structure Hall (B O K S X Y I r : Nat) (lv v : Value) (qs : List Nat) (ts : List T) (l : Lk) (c : Int) (la lk ls lx ly : List Int) (w0 w : World) : Prop where
  core : Core B lv v qs ts l c w0 w
  fO : w.heap[O]? = some (.cells (ints la).toArray 3 (0, 0))
  fK : w.heap[K]? = some (.cells (ints lk).toArray 3 (0, 0))
  fS : w.heap[S]? = some (.cells (ints ls).toArray 3 (0, 0))
  fX : w.heap[X]? = some (.cells (ints lx).toArray 34 (0, 0))
  fY : w.heap[Y]? = some (.cells (ints ly).toArray 34 (0, 0))
  fI : w.heap[I]? = some (.cells #[.int .i64 (r : Int)] 3 (0, 0))

theorem Hall.still {B O K S X Y I r : Nat} {lv v : Value} {qs : List Nat} {ts : List T} {l : Lk} {c : Int} {la lk ls lx ly : List Int} {w0 w w' : World} (h : Hall B O K S X Y I r lv v qs ts l c la lk ls lx ly w0 w) (kk : Kept (fun _ => False) w w') : Hall B O K S X Y I r lv v qs ts l c la lk ls lx ly w0 w' :=
  ⟨h.core.still kk, kk.at h.fO (by simp), kk.at h.fK (by simp), kk.at h.fS (by simp), kk.at h.fX (by simp), kk.at h.fY (by simp), kk.at h.fI (by simp)⟩

/-- What a round lays: which try, what is told, what is wanted. -/
def laidW (w : World) (j : Nat) : World := ((w.alloc (.cells #[.int .i64 j] 3)).alloc (.cells #[.bool false] 4)).alloc (.cells #[.int .i64 0, .int .i64 0] 38)

theorem laidW_kept (w : World) (j : Nat) : Kept (fun _ => False) w (laidW w j) := (((Kept.refl _ _).alloc _).alloc _).alloc _
theorem laidW_j (w : World) (j : Nat) : (laidW w j).heap[w.heap.size]? = some (.cells #[.int .i64 j] 3 (0, 0)) := alloc_off (alloc_off (alloc_at _ _))
theorem laidW_g (w : World) (j : Nat) : (laidW w j).heap[w.heap.size + 1]? = some (.cells #[.bool false] 4 (0, 0)) := alloc_off (alloc_at1 _ _ _)
theorem laidW_z (w : World) (j : Nat) : (laidW w j).heap[w.heap.size + 2]? = some (.cells #[.int .i64 0, .int .i64 0] 38 (0, 0)) := alloc_at' _ (by simp)

/-- Behind the guarded call. -/
theorem Hall.turn {B O K S X Y I r j : Nat} {lv v : Value} {qs : List Nat} {ts : List T} {l : Lk} {c : Int} {la lk ls lx ly : List Int} {w0 w w2 : World} (h : Hall B O K S X Y I r lv v qs ts l c la lk ls lx ly w0 w) (hj : j < qs.length) (z : Res) (u0 u1 : Int)
    (o1 : B + 5 ≤ O) (o2 : O < B + 8) (k1 : B + 5 ≤ K) (k2 : K < B + 8) (s1 : B + 5 ≤ S) (s2 : S < B + 8) (ok : ¬ O = K) (os : ¬ O = S) (ks : ¬ K = S) (hx : B + 8 ≤ X) (hy : Y = X + 1) (hi : Y < I)
    (hg : Gone (B + 2) (B + 1) (qd qs j) (w.heap.size + 1) c z w2) (hk : Kept (fun k => k = B + 2 ∨ k = B + 1 ∨ k = qd qs j ∨ k = w.heap.size + 1) (laidW w j) w2) :
    Lie w0 B O K S X Y I w.heap.size (w.heap.size + 1) (w.heap.size + 2) w2.heap.size ∧
    Turn B O K S X Y I w.heap.size (w.heap.size + 1) (w.heap.size + 2) w2.heap.size r j lv v qs (ts.set j z.x) z.l (c + z.dc) la lk ls lx ly z.got 0 0 u0 u1 w0 (w2.alloc (.cells #[.int .i64 u0, .int .i64 u1] 38)) := by
  have hb := h.core.base
  have hl := h.core.tries.low j hj
  have lI := lt_at h.fI
  have k0 := laidW_kept w j
  have hq := h.core.tries.each j hj
  have lq := lt_at hq
  have ne : ∀ (f : Nat) (cs : Array Value) (t : TypeId), w.heap[f]? = some (.cells cs t (0, 0)) → t ≠ 49 → ¬ f = qd qs j := by
    intro f cs t hf ht e
    subst e
    exact ht (try_type hq hf)
  have nO := ne _ _ _ h.fO (by decide)
  have nK := ne _ _ _ h.fK (by decide)
  have nS := ne _ _ _ h.fS (by decide)
  have nX := ne _ _ _ h.fX (by decide)
  have nY := ne _ _ _ h.fY (by decide)
  have nI := ne _ _ _ h.fI (by decide)
  have gz := lt_at hg.2.2
  have kx := lt_at h.fX
  have h2 : w.heap.size + 2 < w2.heap.size := by have := lt_at (laidW_z w j); have := hk.size; omega
  have k5 : Kept (fun _ => False) w2 (w2.alloc (.cells #[.int .i64 u0, .int .i64 u1] 38)) := (Kept.refl _ _).alloc _
  have hC := ((h.core.still k0).step hj hg.1 hg.2.1 hk (by omega) (laidW_g w j) (by decide) (by decide)).still k5
  refine ⟨⟨hb, o1, o2, k1, k2, s1, s2, ok, os, ks, hx, hy, hi, lI, rfl, rfl, h2⟩, hC, ?_, ?_, ?_, ?_, ?_, ?_, ?_, ?_, ?_, alloc_at _ _⟩
  · exact k5.at (hk.at (k0.at h.fO (by simp)) (by omega)) (by simp)
  · exact k5.at (hk.at (k0.at h.fK (by simp)) (by omega)) (by simp)
  · exact k5.at (hk.at (k0.at h.fS (by simp)) (by omega)) (by simp)
  · exact k5.at (hk.at (k0.at h.fX (by simp)) (by omega)) (by simp)
  · exact k5.at (hk.at (k0.at h.fY (by simp)) (by omega)) (by simp)
  · exact k5.at (hk.at (k0.at h.fI (by simp)) (by omega)) (by simp)
  · exact k5.at (hk.at (laidW_j w j) (by omega)) (by simp)
  · exact k5.at hg.2.2 (by simp)
  · exact k5.at (hk.at (laidW_z w j) (by omega)) (by simp)
end Go.Proofs.Ytlfcbijgncpieaa
