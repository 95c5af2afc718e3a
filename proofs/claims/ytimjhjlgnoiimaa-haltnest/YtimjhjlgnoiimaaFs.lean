/- A row of functions, one for each deed, and what Run does with it; no conditions but the row's own. -/
import Derived.Test.YtimjhjlgnoiimaaAct
namespace Go.Proofs.Ytimjhjlgnoiimaa
open Go.RowKit

/-- The function that does a deed: what it holds are the places of the deed, of its number, and of what was seen. -/
def mkF (F sb : Nat) (pq : Nat × Nat) : Value := .func (.func F) #[] #[.pointer (some ⟨pq.1, 0, none⟩), .pointer (some ⟨pq.2, 0, none⟩), .pointer (some ⟨sb, 0, none⟩)]

/-- The slice fs holds a function for each of the places ps; nothing was seen yet. -/
structure FsInv (F : Nat) (K A : Nat → Int) (sb : Nat) (ps : List (Nat × Nat)) (fs : Value) (w : World) : Prop where
  own : w.ownsRow 0 1 1 fs ps.length (ps.map (mkF F sb))
  deeds : ∀ (j p q : Nat), ps[j]? = some (p, q) → w.heap[p]? = some (.cells #[.int .i64 (K j), .int .i64 (A j)] 35 (0, 0)) ∧ w.heap[q]? = some (.cells #[.int .i64 j] 3 (0, 0))
  seen : w.heap[sb]? = some (.cells #[.slice none 0 0] 27 (0, 0))

theorem row_type {w : World} {base : Nat} {e : TypeId} {size : Nat} {v : Value} {n : Nat} {xs : List Value} (h : w.ownsRow base e size v n xs) {k : Nat} (hk : v.ownBlock = some k) : ∃ cur, w.heap[k]? = some (.cells cur e (0, 0)) := by
  rcases h.2 with ⟨rfl, _⟩ | ⟨g, cap, cur, rfl, _, hgb, _⟩
  · simp [Value.ownBlock] at hk
  · have : g = k := by simpa [Value.ownBlock] using hk
    subst this
    exact ⟨cur, hgb⟩

theorem FsInv.kept {F : Nat} {K A : Nat → Int} {sb : Nat} {ps : List (Nat × Nat)} {fs : Value} {w w' : World} {X : Nat → Prop} (h : FsInv F K A sb ps fs w) (hk : Kept X w w')
    (hX : ∀ k, X k → ∀ c, w.heap[k]? ≠ some (.cells c 1 (0, 0)) ∧ w.heap[k]? ≠ some (.cells c 35 (0, 0)) ∧ w.heap[k]? ≠ some (.cells c 3 (0, 0)) ∧ w.heap[k]? ≠ some (.cells c 27 (0, 0))) : FsInv F K A sb ps fs w' := by
  refine ⟨own_kept h.own hk ?_, ?_, hk.at h.seen (fun x => (hX _ x _).2.2.2 h.seen)⟩
  · intro k e x
    obtain ⟨cur, hc⟩ := row_type h.own e
    exact (hX k x cur).1 hc
  · intro j p q hj
    obtain ⟨h1, h2⟩ := h.deeds j p q hj
    exact ⟨hk.at h1 (fun x => (hX _ x _).2.1 h1), hk.at h2 (fun x => (hX _ x _).2.2.1 h2)⟩

theorem FsInv.kept0 {F : Nat} {K A : Nat → Int} {sb : Nat} {ps : List (Nat × Nat)} {fs : Value} {w w' : World} (h : FsInv F K A sb ps fs w) (hk : Kept (fun _ => False) w w') : FsInv F K A sb ps fs w' :=
  h.kept hk (fun _ x => x.elim)

/-- One function more. -/
theorem FsInv.push {F : Nat} {K A : Nat → Int} {sb : Nat} {ps : List (Nat × Nat)} {fs : Value} {w w1 : World} {tmp : Obj} {g cap p q : Nat} (h : FsInv F K A sb ps fs w)
    (hp : w.heap[p]? = some (.cells #[.int .i64 (K ps.length), .int .i64 (A ps.length)] 35 (0, 0))) (hq : w.heap[q]? = some (.cells #[.int .i64 ps.length] 3 (0, 0)))
    (hown : w1.ownsRow 0 1 1 (.slice (some ⟨g, 0, none⟩) (ps.length + 1) cap) (ps.length + 1) (ps.map (mkF F sb) ++ [mkF F sb (p, q)])) (hg : (w.alloc tmp).grownBy w1 fs.ownBlock) :
    FsInv F K A sb (ps ++ [(p, q)]) (.slice (some ⟨g, 0, none⟩) (ps.length + 1) cap) w1 ∧ Kept (fun k => fs.ownBlock = some k) w w1 := by
  have hk : Kept (fun k => fs.ownBlock = some k) w w1 := Kept.grown ((Kept.refl _ w).alloc tmp) hg (fun k e _ => e)
  have hne : ∀ {k : Nat} {c : Array Value} {t : TypeId}, w.heap[k]? = some (.cells c t (0, 0)) → t ≠ 1 → ¬ fs.ownBlock = some k := by
    intro k c t hc ht e
    obtain ⟨cur, hr⟩ := row_type h.own e
    rw [hc] at hr
    simp at hr
    exact ht hr.2
  refine ⟨⟨by simpa using hown, ?_, hk.at h.seen (hne h.seen (by decide))⟩, hk⟩
  intro j p' q' hj
  by_cases e : j < ps.length
  · rw [List.getElem?_append_left e] at hj
    obtain ⟨h1, h2⟩ := h.deeds j p' q' hj
    exact ⟨hk.at h1 (hne h1 (by decide)), hk.at h2 (hne h2 (by decide))⟩
  · have e' : j = ps.length := by
      have := (List.getElem?_eq_some_iff.1 hj).1
      simp at this
      omega
    subst e'
    simp at hj
    obtain ⟨rfl, rfl⟩ := hj
    exact ⟨hk.at hp (hne hp (by decide)), hk.at hq (hne hq (by decide))⟩

/-- One round of the loop that makes the row: up to the append. -/
theorem fs_step {F : Nat} {K A : Nat → Int} {sb : Nat} {ps : List (Nat × Nat)} {fs : Value} {w0 wr w1 : World} {k g cp : Nat} {tmp : Obj} (hI : FsInv F K A sb ps fs wr) (hP : ps.length = k) (hB : ∀ x, fs.ownBlock = some x → w0.heap.size ≤ x)
    (hK : Kept (fun _ => False) w0 wr)
    (hown : w1.ownsRow 0 1 1 (.slice (some ⟨g, 0, none⟩) (ps.length + 1) cp) (ps.length + 1) (ps.map (mkF F sb) ++ [mkF F sb (wr.heap.size, wr.heap.size + 1)]))
    (hgr : (((wr.alloc (.cells #[.int .i64 (K k), .int .i64 (A k)] 35)).alloc (.cells #[.int .i64 k] 3)).alloc tmp).grownBy w1 fs.ownBlock) (hg : fs.ownBlock = some g ∨ wr.heap.size + 1 + 1 ≤ g) :
    FsInv F K A sb (ps ++ [(wr.heap.size, wr.heap.size + 1)]) (.slice (some ⟨g, 0, none⟩) (ps.length + 1) cp) w1 ∧ (∀ {n : Nat} {c : Array Value} {t : TypeId}, t ≠ 1 → wr.heap[n]? = some (.cells c t (0, 0)) → w1.heap[n]? = some (.cells c t (0, 0))) ∧
      w1.heap[wr.heap.size]? = some (.cells #[.int .i64 (K k), .int .i64 (A k)] 35 (0, 0)) ∧ Kept (fun _ => False) w0 w1 ∧ w0.heap.size ≤ g := by
  subst hP
  have K2 : Kept (fun _ => False) wr ((wr.alloc (.cells #[.int .i64 (K ps.length), .int .i64 (A ps.length)] 35)).alloc (.cells #[.int .i64 ps.length] 3)) := ((Kept.refl _ wr).alloc _).alloc _
  obtain ⟨I1, k1⟩ := (hI.kept0 K2).push (alloc_off (alloc_at _ _)) (alloc_at1 _ _ _) hown hgr
  have hs := hK.size
  refine ⟨I1, ?_, ?_, (hK.trans K2 (fun _ _ h => h)).trans k1 (fun x hx e => ?_), ?_⟩
  · intro n c t ht hn
    refine k1.at (K2.at hn (by simp)) ?_
    intro e
    obtain ⟨cur, hr⟩ := row_type hI.own e
    rw [hn] at hr
    simp at hr
    exact ht hr.2
  · exact (I1.deeds ps.length wr.heap.size (wr.heap.size + 1) (by simp)).1
  · have := hB x e; omega
  · rcases hg with h | h
    · exact hB g h
    · omega

/-- The numbers of those that were done: 0 .. n - 1. -/
def firsts (n : Nat) : List Int := (List.range n).map (fun n : Nat => (n : Int))

theorem firsts_succ (n : Nat) : firsts (n + 1) = firsts n ++ [(n : Int)] := by simp [firsts, List.range_succ]
theorem firsts_length (n : Nat) : (firsts n).length = n := by simp [firsts]

theorem firsts_get (n i : Nat) : ∀ hi, ([] ++ firsts n : List Int)[i]'hi = i := by
  intro hi
  simp [firsts]

theorem FsInv.form {F : Nat} {K A : Nat → Int} {sb : Nat} {ps : List (Nat × Nat)} {fs : Value} {w : World} (h : FsInv F K A sb ps fs w) : ∃ ao cap, fs = .slice ao ps.length cap := by
  rcases h.own.2 with ⟨rfl, h0⟩ | ⟨g, cap, cur, rfl, _⟩
  · exact ⟨none, 0, by rw [h0]⟩
  · exact ⟨_, cap, rfl⟩

/-- The slice of what was seen, whatever its length. -/
theorem Seen.form {sb : Nat} {v : Value} {xs : List Int} {w : World} (h : Seen sb v xs w) : ∃ ao g cap, v = .slice ao xs.length cap ∧ (0 < xs.length → ao = some ⟨g, 0, none⟩ ∧ g < w.heap.size) ∧ ∀ i (hi : i < xs.length), w.cell? ⟨g, i, none⟩ = some (.int .i64 xs[i]) := by
  have hlt := fun k (e : v.ownBlock = some k) => h.row_lt e
  rcases h.own.2 with ⟨rfl, h0⟩ | ⟨g, cap, cur, rfl, hb, hg, hc, _⟩
  · exact ⟨none, 0, 0, by rw [h0], fun h => by omega, fun i hi => by omega⟩
  · refine ⟨_, g, cap, rfl, fun _ => ⟨rfl, hlt g rfl⟩, fun i hi => ?_⟩
    have := h.own.cells (g := g) rfl i (.int .i64 xs[i]) (by simp [hi])
    rw [Addr.add_lit, Nat.zero_add] at this
    exact this

/-- The first of k deeds that stops, of N in all: want, and its stop. -/
def FirstStop (o : Nat → Out) (N k want : Nat) (s0 s1 : Int) : Prop :=
  ((∀ j, j < k → (o j).stopped = false) ∧ want = N ∧ s0 = 0 ∧ s1 = 0) ∨
  ((∀ j, j < want → (o j).stopped = false) ∧ want < k ∧ (o want).stopped = true ∧ (o want).told = stopV s0 s1)

theorem first_unique {o : Nat → Out} {N want m : Nat} {s0 s1 : Int} (h : FirstStop o N N want s0 s1) (hm : m ≤ N) (h1 : ∀ j, j < m → (o j).stopped = false) (h2 : m < N → (o m).stopped = true) :
    m = want ∧ (if m < N then (o m).told else stopV 0 0) = stopV s0 s1 := by
  rcases h with ⟨a, rfl, rfl, rfl⟩ | ⟨a, b, c, d⟩
  · have : ¬ m < want := fun hlt => by
      have := h2 hlt
      rw [a m hlt] at this
      cases this
    exact ⟨by omega, by rw [if_neg this]⟩
  · have e : m = want := by
      rcases Nat.lt_trichotomy m want with h | h | h
      · have := h2 (by omega)
        rw [a m h] at this
        cases this
      · exact h
      · have := h1 want h
        rw [c] at this
        cases this
    subst e
    exact ⟨rfl, by rw [if_pos b, d]⟩

/-- What the closure of a deed does. -/
def DeedFn (F : Nat) : Prop := Enters F ∧ ∀ (k at_ i : Int) (p q sb : Nat) (v : Value) (xs : List Int) (w : World), w.heap[p]? = some (.cells #[.int .i64 k, .int .i64 at_] 35 (0, 0)) → w.heap[q]? = some (.cells #[.int .i64 i] 3 (0, 0)) → Seen sb v xs w → xs.length ≤ 1000 →
    Calls Try.prog F #[.pointer (some ⟨p, 0, none⟩), .pointer (some ⟨q, 0, none⟩), .pointer (some ⟨sb, 0, none⟩)] w fun e w' => (outOf k at_).ends e ∧ Adds sb v xs [i] w w'

theorem rows_fn : DeedFn 19 := ⟨fun _ _ => by kernel_rfl, rows_deed⟩
theorem nest_fn : DeedFn 33 := ⟨fun _ _ => by kernel_rfl, nest_deed⟩

theorem run_deeds (F : Nat) (hF : DeedFn F) (K A : Nat → Int) (sb : Nat) (ps : List (Nat × Nat)) (fs : Value) (w : World) (h : FsInv F K A sb ps fs w) (hl : ps.length ≤ 100) :
    Calls Try.prog 13 #[fs] w fun e w' => ∃ m, m ≤ ps.length ∧ (∀ j, j < m → (outOf (K j) (A j)).stopped = false) ∧ (m < ps.length → (outOf (K m) (A m)).stopped = true) ∧
      e = .returned (.tuple #[.int .i64 m, if m < ps.length then (outOf (K m) (A m)).told else stopV 0 0]) ∧ Adds sb (.slice none 0 0) [] (firsts (min (m + 1) ps.length)) w w' := by
  obtain ⟨ao, cap, b, rfl, hao⟩ : ∃ ao cap b, fs = .slice ao ps.length cap ∧ (0 < ps.length → ao = some ⟨b, 0, none⟩) := by
    rcases h.own.2 with ⟨rfl, h0⟩ | ⟨g, cap, cur, rfl, _⟩
    · exact ⟨none, 0, 0, by rw [h0], fun h => by omega⟩
    · exact ⟨_, cap, g, rfl, fun _ => rfl⟩
  let W := w.alloc (.cells #[.int .i64 0, .int .i64 0] 23)
  have KW : Kept (fun _ => False) w W := (Kept.refl _ w).alloc _
  have hsW : Seen sb (.slice none 0 0) [] W := ⟨KW.at h.seen (by simp), World.ownsRow_nil _ _ _ _⟩
  have hsb : sb < w.heap.size := lt_at h.seen
  have hWs : W.heap.size = w.heap.size + 1 := by simp [W]
  have hX : ∀ {w1 : World} {zs : List Int}, Adds sb (.slice none 0 0) [] zs W w1 → Kept (fun k => k = sb) W w1 := fun hA => hA.1.mono (by
    intro k _ hk
    simpa [Value.ownBlock] using hk)
  refine (run_list ao ps.length cap (fun i => mkF F sb (ps.getD i (0, 0))) (fun i => outOf (K i) (A i)) (fun i w1 => Adds sb (.slice none 0 0) [] (firsts i) W w1) w (by omega) b hao (Adds.refl hsW) ?_ ?_ ?_ ?_).mono ?_
  · intro i w1 w2 hA hk
    exact hA.behind hk (by simp) (by simp) (by simp)
  · intro i w1 hA
    exact (hX hA).at (alloc_at _ _) (by omega)
  · intro i w1 hA hi
    have hb := hao (by omega)
    subst hb
    have hc := h.own.cells (g := b) rfl i (mkF F sb (ps.getD i (0, 0))) (by simp [hi])
    rw [Addr.add_lit, Nat.zero_add] at hc
    obtain ⟨cur, hr⟩ := row_type h.own (k := b) rfl
    refine (hX hA).cell (KW.cell hc (by simp)) ?_
    rintro rfl
    rw [h.seen] at hr
    simp at hr
  · intro i hi w1 hA
    have hA' := hA
    obtain ⟨k1, v1, s1, r1⟩ := hA'
    have hpq : ps[i]? = some ((ps.getD i (0, 0)).1, (ps.getD i (0, 0)).2) := by simp [hi]
    obtain ⟨d1, d2⟩ := h.deeds i _ _ hpq
    have ne1 : (ps.getD i (0, 0)).1 ≠ sb := by
      intro e; rw [e, h.seen] at d1; simp at d1
    have ne2 : (ps.getD i (0, 0)).2 ≠ sb := by
      intro e; rw [e, h.seen] at d2; simp at d2
    have D := hF.2 (K i) (A i) i (ps.getD i (0, 0)).1 (ps.getD i (0, 0)).2 sb v1 ([] ++ firsts i) (inGuard w1) (inGuard_at ((hX hA).at (KW.at d1 (by simp)) ne1)) (inGuard_at ((hX hA).at (KW.at d2 (by simp)) ne2)) (inGuard_seen s1) (by simp [firsts_length]; omega)
    refine (guard_adds s1 _ _ (run_w F _ hF.1 _ _ _ D)).mono ?_
    rintro e w2 ⟨rfl, hB⟩
    refine ⟨rfl, ?_⟩
    rw [firsts_succ]
    exact hA.step s1 hB
  · rintro e w' ⟨m, hm, h1, h2, rfl, w1, h3, h4⟩
    refine ⟨m, hm, h1, h2, rfl, ?_⟩
    obtain ⟨k1, v1, s1, r1⟩ := h3
    refine ⟨((KW.mono (fun _ _ h => h.elim)).trans k1 (fun _ _ h => h)).trans h4 (fun k hk e => by omega), v1, s1.kept h4 (by omega) ?_, ?_⟩
    · intro k e hk
      rcases r1 k e with h | h
      · simp [Value.ownBlock] at h
      · omega
    · intro k e
      rcases r1 k e with h | h
      · exact .inl h
      · exact .inr (by omega)
end Go.Proofs.Ytimjhjlgnoiimaa
