/- What a deed does to the row of what was seen; no conditions but the row's own. -/
import Derived.Test.YtimjhjlgnoiimaaRunsW
import Derived.OwnWalk
import Derived.ArgAppend
import Derived.RegionDies
namespace Go.Proofs.Ytimjhjlgnoiimaa
open Go.RowKit

/-- The variable in block sb holds the slice v, whose own row holds the numbers xs. -/
structure Seen (sb : Nat) (v : Value) (xs : List Int) (w : World) : Prop where
  box : w.heap[sb]? = some (.cells #[v] 27 (0, 0))
  own : w.ownsRow 0 3 1 v xs.length (xs.map (Value.int .i64))

/-- Numbers zs came behind the numbers xs; nothing else that was there has turned. -/
def Adds (sb : Nat) (v : Value) (xs zs : List Int) (w w' : World) : Prop :=
  Kept (fun k => k = sb ∨ v.ownBlock = some k) w w' ∧ ∃ v', Seen sb v' (xs ++ zs) w' ∧ ∀ k, v'.ownBlock = some k → v.ownBlock = some k ∨ w.heap.size ≤ k

theorem Seen.row_lt {sb : Nat} {v : Value} {xs : List Int} {w : World} (h : Seen sb v xs w) {k : Nat} (hk : v.ownBlock = some k) : k < w.heap.size := (h.own.lt k hk).2

theorem Seen.row_ne {sb : Nat} {v : Value} {xs : List Int} {w : World} (h : Seen sb v xs w) : v.ownBlock ≠ some sb := by
  intro e
  rcases h.own.2 with ⟨rfl, _⟩ | ⟨g, cap, cur, rfl, _, hgb, _⟩
  · simp [Value.ownBlock] at e
  · have : g = sb := by simpa [Value.ownBlock] using e
    subst this
    rw [h.box] at hgb
    simp at hgb

theorem own_kept {X : Nat → Prop} {w w' : World} {base : Nat} {e : TypeId} {size : Nat} {v : Value} {n : Nat} {xs : List Value} (h : w.ownsRow base e size v n xs) (hk : Kept X w w') (hx : ∀ k, v.ownBlock = some k → ¬ X k) : w'.ownsRow base e size v n xs := by
  refine ⟨h.1, ?_⟩
  rcases h.2 with hn | ⟨g, cap, cur, rfl, hb, hgg, rest⟩
  · exact .inl hn
  · exact .inr ⟨g, cap, cur, rfl, hb, hk.at hgg (hx g rfl), rest⟩

theorem Seen.kept {X : Nat → Prop} {sb : Nat} {v : Value} {xs : List Int} {w w' : World} (h : Seen sb v xs w) (hk : Kept X w w') (hsb : ¬ X sb) (hx : ∀ k, v.ownBlock = some k → ¬ X k) : Seen sb v xs w' :=
  ⟨hk.at h.box hsb, own_kept h.own hk hx⟩

theorem Adds.refl {sb : Nat} {v : Value} {xs : List Int} {w : World} (h : Seen sb v xs w) : Adds sb v xs [] w w :=
  ⟨Kept.refl _ _, v, by simpa using h, fun k hk => .inl hk⟩

/-- Numbers, and numbers more. -/
theorem Adds.trans {sb : Nat} {v : Value} {xs ys zs : List Int} {w w1 w2 : World} (h : Adds sb v xs ys w w1) (g : ∀ v1, Seen sb v1 (xs ++ ys) w1 → Adds sb v1 (xs ++ ys) zs w1 w2) : Adds sb v xs (ys ++ zs) w w2 := by
  obtain ⟨hk, v1, hs1, hr1⟩ := h
  obtain ⟨gk, v2, hs2, hr2⟩ := g v1 hs1
  refine ⟨hk.trans gk ?_, v2, by simpa using hs2, ?_⟩
  · rintro k hlt (rfl | e)
    · exact .inl rfl
    · rcases hr1 k e with h | h
      · exact .inr h
      · omega
  · intro k e
    have := hk.size
    rcases hr2 k e with h | h
    · exact hr1 k h
    · exact .inr (by omega)

theorem Adds.step {sb : Nat} {v v1 : Value} {xs ys zs : List Int} {w w1 w2 : World} (h : Adds sb v xs ys w w1) (s : Seen sb v1 (xs ++ ys) w1) (g : Adds sb v1 (xs ++ ys) zs w1 w2) : Adds sb v xs (ys ++ zs) w w2 :=
  h.trans fun v2 s2 => by
    have e := s.box.symm.trans s2.box
    simp at e
    subst e
    exact g

/-- What turns other blocks, ahead or behind, changes nothing of it. -/
theorem Adds.behind {X : Nat → Prop} {sb : Nat} {v : Value} {xs zs : List Int} {w w1 w2 : World} (h : Adds sb v xs zs w w1) (g : Kept X w1 w2) (hsb : ¬ X sb) (hX : ∀ k, k < w.heap.size → ¬ X k) (hX' : ∀ k, X k → ∀ v', Seen sb v' (xs ++ zs) w1 → v'.ownBlock ≠ some k) : Adds sb v xs zs w w2 := by
  obtain ⟨hk, v1, hs1, hr1⟩ := h
  refine ⟨hk.trans g (fun k hlt hx => absurd hx (hX k hlt)), v1, hs1.kept g hsb (fun k e hx => hX' k hx v1 hs1 e), hr1⟩

theorem own_zero {w : World} {base : Nat} {e : TypeId} {size : Nat} {v : Value} {n : Nat} {xs : List Value} (h : w.ownsRow base e size v n xs) : w.ownsRow 0 e size v n xs := by
  refine ⟨h.1, ?_⟩
  rcases h.2 with hn | ⟨g, cap, cur, rfl, hb, rest⟩
  · exact .inl hn
  · exact .inr ⟨g, cap, cur, rfl, Nat.zero_le _, rest⟩

/-- One element more, and where its row lies: where it lay, or behind all that was there. -/
theorem append_new {P : Program} (w : World) {ops : Array Oper} {rest : List Oper} {o : Oper} {a : Act} {Q : Exit → Act → World → Prop}
    (hg : o.guard = none) (s x : Operand) (t : TypeId) (hop : o.op = Op.call { callee := Callee.builtin Builtin.append, args := #[s, x], argTypes := #[t, t] })
    (e : TypeId) (i : TypeInfo) (z : Value) (bytes : Nat) (h1 : P.underlying t = some (.slice e)) (h2 : P.info? e = some i) (h3 : i.zero = some z) (h4 : i.size = 1) (h5 : i.bytes = bytes) (h6 : z.cells.size = 1)
    (v : Value) (n : Nat) (xs : List Value) (hs : a.eval s = v) (hown : w.ownsRow 0 e 1 v n xs) (ad : Addr) (c : Nat) (u : Value) (hx : a.eval x = .slice (some ad) 1 c)
    (hc : w.cell? ad = some u) (h1c : u.oneCell' = true) (b1 : n + 1 ≤ maxLen) (b2 : (n + 1) * bytes ≤ 140737488355328)
    (hK : ∀ g cap w', w'.ownsRow 0 e 1 (.slice (some ⟨g, 0, none⟩) (n + 1) cap) (n + 1) (xs ++ [u]) → w.grownBy w' v.ownBlock → (v.ownBlock = some g ∨ w.heap.size ≤ g) → wpList P ops Q rest (a.put o.dst (.slice (some ⟨g, 0, none⟩) (n + 1) cap)) w') :
    wpList P ops Q (o :: rest) a w := by
  have hc' : ∀ j u', [u][j]? = some u' → w.cell? (ad.add j) = some u' := by
    intro j u' hj
    match j, hj with
    | 0, hj => simp at hj; subst hj; simpa [Addr.add] using hc
  have hgrow : ∀ v' w', w'.ownsRow w.heap.size e 1 v' (n + 1) (xs ++ [u]) → w.grownBy w' none → wpList P ops Q rest (a.put o.dst v') w' := by
    intro v' w' hown' hg'
    rcases hown'.2 with ⟨_, h0⟩ | ⟨g, cap, cur, rfl, hb, _⟩
    · omega
    · exact hK g cap w' (own_zero hown') ⟨hg'.os, hg'.tape, hg'.output, hg'.size, fun k hk _ => hg'.block k hk (by simp)⟩ (.inr hb)
  rcases hown.2 with ⟨rfl, h0⟩ | ⟨g, cap, cur, rfl, _, hgb, _, _, _, _⟩
  · subst h0
    exact wpList_append_grows w hg s x t hop e i z 1 bytes h1 h2 h3 h4 h5 h6 (by decide) none 0 0 xs hs (fun _ => ⟨rfl, rfl⟩) hown.1 (fun b hb => by cases hb) ad 1 c [u] hx rfl hc' (by simpa using h1c) (by omega) b1 b2 hgrow
  · by_cases hr : n + 1 ≤ cap
    · refine wpList_append_fits w hg s x t hop 0 e i 1 h1 h2 h4 g n cap xs hs hown ad 1 c [u] hx rfl hc' (by simpa using h1c) hr ?_
      intro w' hown' hg'
      exact hK g cap w' hown' hg' (.inl rfl)
    · refine wpList_append_grows w hg s x t hop e i z 1 bytes h1 h2 h3 h4 h5 h6 (by decide) (some ⟨g, 0, none⟩) n cap xs hs (fun h => by cases h) hown.1 ?_ ad 1 c [u] hx rfl hc' (by simpa using h1c) (by omega) b1 b2 hgrow
      intro b hb j u' hj
      cases hb
      exact hown.cells rfl j u' hj

theorem info_int : (Try.prog.info? 3).map (fun i => (i.zero, i.size, i.bytes)) = some (some (.int .i64 0), 1, 8) := by kernel_rfl

def outOf (kind at_ : Int) : Out := if kind = 1 then .halts 9 at_ else if kind = 2 then .breaks else .done

/-- What is stored back behind the append. -/
theorem append_adds {sb : Nat} {v v' : Value} {xs : List Int} {i : Int} {w w1 : World} {tmp : Obj} (hs : Seen sb v xs w) (hown : w1.ownsRow 0 3 1 v' (xs.length + 1) (xs.map (Value.int .i64) ++ [.int .i64 i]))
    (hnew : ∀ k, v'.ownBlock = some k → v.ownBlock = some k ∨ w.heap.size ≤ k) (hg : (w.alloc tmp).grownBy w1 v.ownBlock) :
    w1.heap[sb]? = some (.cells #[v] 27 (0, 0)) ∧ Adds sb v xs [i] w (w1.setCell ⟨sb, 0, none⟩ v') := by
  have hk : Kept (fun k => k = sb ∨ v.ownBlock = some k) w w1 := Kept.grown ((Kept.refl _ w).alloc tmp) hg (fun k e _ => .inr e)
  have hbox : w1.heap[sb]? = some (.cells #[v] 27 (0, 0)) := by
    rw [hg.block sb (by have := lt_at hs.box; simp; omega) (fun e => hs.row_ne e.symm)]
    exact alloc_off hs.box
  refine ⟨hbox, hk.setCell (fun _ => .inl rfl) _, v', ⟨?_, ?_⟩, hnew⟩
  · exact set_at hbox 0 v'
  · have := own_kept (X := fun k => k = sb) hown (Kept.setCell (X := fun k => k = sb) (Kept.refl _ w1) (p := ⟨sb, 0, none⟩) (fun _ => rfl) v') (by
      rintro k e rfl
      rcases hown.2 with ⟨rfl, _⟩ | ⟨g, cap, cur, rfl, _, hgb, _⟩
      · simp [Value.ownBlock] at e
      · have : g = k := by simpa [Value.ownBlock] using e
        subst this
        rw [hbox] at hgb
        simp at hgb)
    simpa using this

theorem Adds.ahead {sb : Nat} {v : Value} {xs zs : List Int} {w w0 w1 : World} (hk : Kept (fun _ => False) w w0) (h : Adds sb v xs zs w0 w1) : Adds sb v xs zs w w1 := by
  obtain ⟨k1, v', h1, h2⟩ := h
  refine ⟨(hk.mono (fun _ _ h => h.elim)).trans k1 (fun _ _ h => h), v', h1, fun k e => ?_⟩
  have := hk.size
  rcases h2 k e with h | h
  · exact .inl h
  · exact .inr (by omega)

/-- Behind the append of a deed: the variable, the deed's own place, and what was added. -/
theorem act_append {sb g cap : Nat} {v d0 d1 : Value} {xs : List Int} {i : Int} {w w1 : World} (hs : Seen sb v xs w)
    (hown : w1.ownsRow 0 3 1 (.slice (some ⟨g, 0, none⟩) (xs.length + 1) cap) (xs.length + 1) (xs.map (Value.int .i64) ++ [.int .i64 i]))
    (hgr : ((w.alloc (.cells #[d0, d1] 35)).alloc (.cells #[.int .i64 i] 3)).grownBy w1 v.ownBlock) (hg : v.ownBlock = some g ∨ w.heap.size + 1 + 1 ≤ g) :
    w1.heap[sb]? = some (.cells #[v] 27 (0, 0)) ∧ w1.heap[w.heap.size]? = some (.cells #[d0, d1] 35 (0, 0)) ∧
      Adds sb v xs [i] w (w1.setCell ⟨sb, 0, none⟩ (.slice (some ⟨g, 0, none⟩) (xs.length + 1) cap)) := by
  have K0 : Kept (fun _ => False) w (w.alloc (.cells #[d0, d1] 35)) := (Kept.refl (fun _ => False) w).alloc _
  have hs1 := hs.kept K0 (by simp) (by simp)
  obtain ⟨a1, a2⟩ := append_adds hs1 hown (by
    intro k e
    have e' : g = k := by simpa [Value.ownBlock] using e
    subst e'
    rcases hg with h | h
    · exact .inl h
    · exact .inr (by simp; omega)) hgr
  refine ⟨a1, ?_, Adds.ahead K0 a2⟩
  rw [hgr.block w.heap.size (by simp; omega) (fun e => by have := hs.row_lt e.symm; omega)]
  exact alloc_off (alloc_at _ _)

set_option maxHeartbeats 800000 in
theorem act_stop (at_ i : Int) (sb : Nat) (v : Value) (xs : List Int) (w : World) (hs : Seen sb v xs w) (hl : xs.length ≤ 1000) :
    Calls Try.prog 20 #[.agg #[.int .i64 1, .int .i64 at_], .int .i64 i, .pointer (some ⟨sb, 0, none⟩)] w fun e w' => (Out.halts 9 at_).ends e ∧ Adds sb v xs [i] w w' := by
  obtain ⟨i0, hi, hz0, hz1, hz2⟩ := info_parts info_int
  have K0 : Kept (fun _ => False) w (w.alloc (.cells #[.int .i64 1, .int .i64 at_] 35)) := (Kept.refl (fun _ => False) w).alloc _
  have hs1 := hs.kept K0 (by simp) (by simp)
  have c0 := cell_at hs.box (i := 0) rfl
  have l0 := lt_at hs.box
  have f0 := free_at hs.box 0
  go_enter Try.func20, Try.ntmps20
  go_wp2_with (at_builtin; refine append_new _ rfl _ _ 27 rfl 3 i0 (.int .i64 0) 8 Try.underlying27 hi hz0 hz1 hz2 rfl _ _ _ rfl (hs1.own.alloc _) ⟨w.heap.size + 1, 0, none⟩ 1 (.int .i64 i) rfl ?c1 rfl ?c3 ?c4 ?_)
  case c1 => exact cell_at (alloc_at1 _ _ _) (i := 0) rfl
  case c3 => unfold maxLen; omega
  case c4 => omega
  intro g cap w1 hown hgr hg
  obtain ⟨a1, a2, a3⟩ := act_append hs hown hgr (by simpa using hg)
  have HA : Hid (Adds sb v xs [i] w _) := a3
  have c1 := cell_at a1 (i := 0) rfl
  have f1 := free_at a1 0
  have d0 := cell_at a2 (i := 0) rfl
  have d1 := cell_at a2 (i := 1) rfl
  have l1 : ¬ w.heap.size = sb := by omega
  clear hown hgr hg a1 a2 a3 c0 f0 hs hs1 K0
  go_wp2_with fail
  refine (stop_w 9 at_ _).mono ?_
  rintro e w2 ⟨he, rfl⟩
  rcases ends_cases he with ⟨h, rfl⟩ | ⟨hst, v, older, hv, rfl, hold⟩
  · cases h
  · exact ⟨rfl, ends_stop hv hold, HA.out⟩

set_option maxHeartbeats 800000 in
theorem act_must (at_ i : Int) (sb : Nat) (v : Value) (xs : List Int) (w : World) (hs : Seen sb v xs w) (hl : xs.length ≤ 1000) :
    Calls Try.prog 20 #[.agg #[.int .i64 3, .int .i64 at_], .int .i64 i, .pointer (some ⟨sb, 0, none⟩)] w fun e w' => (Out.done).ends e ∧ Adds sb v xs [i] w w' := by
  obtain ⟨i0, hi, hz0, hz1, hz2⟩ := info_parts info_int
  have K0 : Kept (fun _ => False) w (w.alloc (.cells #[.int .i64 3, .int .i64 at_] 35)) := (Kept.refl (fun _ => False) w).alloc _
  have hs1 := hs.kept K0 (by simp) (by simp)
  have c0 := cell_at hs.box (i := 0) rfl
  have l0 := lt_at hs.box
  have f0 := free_at hs.box 0
  go_enter Try.func20, Try.ntmps20
  go_wp2_with (at_builtin; refine append_new _ rfl _ _ 27 rfl 3 i0 (.int .i64 0) 8 Try.underlying27 hi hz0 hz1 hz2 rfl _ _ _ rfl (hs1.own.alloc _) ⟨w.heap.size + 1, 0, none⟩ 1 (.int .i64 i) rfl ?c1 rfl ?c3 ?c4 ?_)
  case c1 => exact cell_at (alloc_at1 _ _ _) (i := 0) rfl
  case c3 => unfold maxLen; omega
  case c4 => omega
  intro g cap w1 hown hgr hg
  obtain ⟨a1, a2, a3⟩ := act_append hs hown hgr (by simpa using hg)
  have HA : Hid (Adds sb v xs [i] w _) := a3
  have c1 := cell_at a1 (i := 0) rfl
  have f1 := free_at a1 0
  have d0 := cell_at a2 (i := 0) rfl
  have d1 := cell_at a2 (i := 1) rfl
  have l1 : ¬ w.heap.size = sb := by omega
  clear hown hgr hg a1 a2 a3 c0 f0 hs hs1 K0
  go_wp2_with fail
  refine (must_ok 2 at_ _).mono ?_
  rintro e w2 ⟨rfl, rfl⟩
  go_wp2
  go_end0
  exact ⟨rfl, HA.out⟩

set_option maxHeartbeats 800000 in
theorem act_else (k : Int) (k1 : (k == 1) = false) (k2 : (k == 2) = false) (k3 : (k == 3) = false) (at_ i : Int) (sb : Nat) (v : Value) (xs : List Int) (w : World) (hs : Seen sb v xs w) (hl : xs.length ≤ 1000) :
    Calls Try.prog 20 #[.agg #[.int .i64 k, .int .i64 at_], .int .i64 i, .pointer (some ⟨sb, 0, none⟩)] w fun e w' => (Out.done).ends e ∧ Adds sb v xs [i] w w' := by
  obtain ⟨i0, hi, hz0, hz1, hz2⟩ := info_parts info_int
  have K0 : Kept (fun _ => False) w (w.alloc (.cells #[.int .i64 k, .int .i64 at_] 35)) := (Kept.refl (fun _ => False) w).alloc _
  have hs1 := hs.kept K0 (by simp) (by simp)
  have c0 := cell_at hs.box (i := 0) rfl
  have l0 := lt_at hs.box
  have f0 := free_at hs.box 0
  go_enter Try.func20, Try.ntmps20
  go_wp2_with (at_builtin; refine append_new _ rfl _ _ 27 rfl 3 i0 (.int .i64 0) 8 Try.underlying27 hi hz0 hz1 hz2 rfl _ _ _ rfl (hs1.own.alloc _) ⟨w.heap.size + 1, 0, none⟩ 1 (.int .i64 i) rfl ?c1 rfl ?c3 ?c4 ?_)
  case c1 => exact cell_at (alloc_at1 _ _ _) (i := 0) rfl
  case c3 => unfold maxLen; omega
  case c4 => omega
  intro g cap w1 hown hgr hg
  obtain ⟨a1, a2, a3⟩ := act_append hs hown hgr (by simpa using hg)
  have HA : Hid (Adds sb v xs [i] w _) := a3
  have c1 := cell_at a1 (i := 0) rfl
  have f1 := free_at a1 0
  have d0 := cell_at a2 (i := 0) rfl
  have d1 := cell_at a2 (i := 1) rfl
  have l1 : ¬ w.heap.size = sb := by omega
  clear hown hgr hg a1 a2 a3 c0 f0 hs hs1 K0
  go_wp2
  go_end0
  exact ⟨rfl, HA.out⟩

set_option maxHeartbeats 800000 in
theorem act_break (at_ i : Int) (sb : Nat) (v : Value) (xs : List Int) (w : World) (hs : Seen sb v xs w) (hl : xs.length ≤ 1000) :
    Calls Try.prog 20 #[.agg #[.int .i64 2, .int .i64 at_], .int .i64 i, .pointer (some ⟨sb, 0, none⟩)] w fun e w' => (Out.breaks).ends e ∧ Adds sb v xs [i] w w' := by
  obtain ⟨i0, hi, hz0, hz1, hz2⟩ := info_parts info_int
  have K0 : Kept (fun _ => False) w (w.alloc (.cells #[.int .i64 2, .int .i64 at_] 35)) := (Kept.refl (fun _ => False) w).alloc _
  have hs1 := hs.kept K0 (by simp) (by simp)
  have c0 := cell_at hs.box (i := 0) rfl
  have l0 := lt_at hs.box
  have f0 := free_at hs.box 0
  go_enter Try.func20, Try.ntmps20
  go_wp2_with (at_builtin; refine append_new _ rfl _ _ 27 rfl 3 i0 (.int .i64 0) 8 Try.underlying27 hi hz0 hz1 hz2 rfl _ _ _ rfl (hs1.own.alloc _) ⟨w.heap.size + 1, 0, none⟩ 1 (.int .i64 i) rfl ?c1 rfl ?c3 ?c4 ?_)
  case c1 => exact cell_at (alloc_at1 _ _ _) (i := 0) rfl
  case c3 => unfold maxLen; omega
  case c4 => omega
  intro g cap w1 hown hgr hg
  obtain ⟨a1, a2, a3⟩ := act_append hs hown hgr (by simpa using hg)
  have HA : Hid (Adds sb v xs [i] w _) := a3
  have c1 := cell_at a1 (i := 0) rfl
  have f1 := free_at a1 0
  have d0 := cell_at a2 (i := 0) rfl
  have d1 := cell_at a2 (i := 1) rfl
  have l1 : ¬ w.heap.size = sb := by omega
  clear hown hgr hg a1 a2 a3 c0 f0 hs hs1 K0
  go_wp2
  obtain ⟨pv, w2, hix, hk2⟩ := index_nil (IntKind.i64.wrap (1 + i)) (w1.setCell ⟨sb, 0, none⟩ (.slice (some ⟨g, 0, none⟩) (xs.length + 1) cap)).drew
  have HB : Hid (Adds sb v xs [i] w w2) := HA.out.behind (((Kept.refl (fun _ => False) _).drew).trans hk2 (fun _ _ h => h)) (by simp) (by simp) (by simp)
  clear hk2
  go_region_dies
  all_goals exact ⟨rfl, ends_stop (o := .breaks) ⟨pv, rfl⟩ (by simp), HB.out⟩

/-- What any deed does. -/
theorem act_w (k at_ i : Int) (sb : Nat) (v : Value) (xs : List Int) (w : World) (hs : Seen sb v xs w) (hl : xs.length ≤ 1000) :
    Calls Try.prog 20 #[.agg #[.int .i64 k, .int .i64 at_], .int .i64 i, .pointer (some ⟨sb, 0, none⟩)] w fun e w' => (outOf k at_).ends e ∧ Adds sb v xs [i] w w' := by
  by_cases h1 : k = 1
  · subst h1; exact act_stop at_ i sb v xs w hs hl
  by_cases h2 : k = 2
  · subst h2; exact act_break at_ i sb v xs w hs hl
  have ho : outOf k at_ = .done := by simp [outOf, h1, h2]
  rw [ho]
  by_cases h3 : k = 3
  · subst h3; exact act_must at_ i sb v xs w hs hl
  · exact act_else k (by simp [h1]) (by simp [h2]) (by simp [h3]) at_ i sb v xs w hs hl

/-- The stop that the statements expect of a deed. -/
theorem stops_w (k at_ : Int) (w : World) :
    Calls Try.prog 21 #[.agg #[.int .i64 k, .int .i64 at_]] w fun e w' => e = .returned (.tuple #[(outOf k at_).told, .bool (outOf k at_).stopped]) ∧ Kept (fun _ => False) w w' := by
  by_cases h1 : k = 1
  · subst h1
    go_enter Try.func21, Try.ntmps21
    go_wp2
    refine bodyPost_ret (v := .tuple #[.agg #[.int .i64 9, .int .i64 at_], .bool true]) (by simp [results, Try.results21, go_sem]) rfl ⟨rfl, ((Kept.refl _ w).alloc _).alloc _⟩
  by_cases h2 : k = 2
  · subst h2
    go_enter Try.func21, Try.ntmps21
    go_wp2
    refine bodyPost_ret (v := .tuple #[.agg #[.int .i64 1, .int .i64 0], .bool true]) (by simp [results, Try.results21, go_sem]) rfl ⟨rfl, ((Kept.refl _ w).alloc _).alloc _⟩
  have ho : outOf k at_ = .done := by simp [outOf, h1, h2]
  rw [ho]
  have k1 : (k == 1) = false := by simp [h1]
  have k2 : (k == 2) = false := by simp [h2]
  clear ho h1 h2
  go_enter Try.func21, Try.ntmps21
  go_wp2
  refine bodyPost_ret (v := .tuple #[.agg #[.int .i64 0, .int .i64 0], .bool false]) (by simp [results, Try.results21, go_sem]) rfl ⟨rfl, ((Kept.refl _ w).alloc _).alloc _⟩

/-- A guard of what adds numbers. -/
theorem guard_adds {sb : Nat} {v : Value} {xs zs : List Int} {w : World} (hs : Seen sb v xs w) (fv : Value) (o : Out)
    (h : Calls Try.prog 39 #[fv] (inGuard w) fun e w' => o.ends e ∧ Adds sb v xs zs (inGuard w) w') :
    Calls Try.prog 8 #[fv] w fun e w' => e = .returned (.tuple #[o.told, .bool o.stopped]) ∧ Adds sb v xs zs w w' := by
  have hlt := lt_at hs.box
  have hrow : ∀ k, v.ownBlock = some k → k < w.heap.size := fun k e => hs.row_lt e
  have K0 : Kept (fun _ => False) w (inGuard w) := ((Kept.refl _ w).alloc _).alloc _
  refine (guard_w fv o (fun w' => Adds sb v xs zs (inGuard w) w') w (h.mono ?_)).mono ?_
  · rintro e w' ⟨he, hA⟩
    refine ⟨he, hA, hA.1.at (inGuard0 w) ?_, hA.1.at (inGuard1 w) ?_⟩
    · rintro (e | e)
      · omega
      · have := hrow _ e; omega
    · rintro (e | e)
      · omega
      · have := hrow _ e; omega
  · rintro e w' ⟨rfl, w1, ⟨k1, v1, s1, r1⟩, hk⟩
    rw [inGuard_size] at r1
    refine ⟨rfl, ((K0.mono (fun _ _ h => h.elim)).trans k1 (fun _ _ h => h)).trans hk (fun k hk' hx => by omega), v1, s1.kept hk (by omega) ?_, ?_⟩
    · intro k e hx
      rcases r1 k e with h | h
      · have := hrow k h; omega
      · omega
    · intro k e
      rcases r1 k e with h | h
      · exact .inl h
      · exact .inr (by omega)

theorem inGuard_seen {sb : Nat} {v : Value} {xs : List Int} {w : World} (hs : Seen sb v xs w) : Seen sb v xs (inGuard w) :=
  hs.kept (X := fun _ => False) (((Kept.refl _ w).alloc _).alloc _) (by simp) (by simp)

theorem inGuard_at {w : World} {n : Nat} {x : Obj} (h : w.heap[n]? = some x) : (inGuard w).heap[n]? = some x := alloc_off (alloc_off h)

/-- A call that ends as the called one does. -/
theorem rows_deed (k at_ i : Int) (p q sb : Nat) (v : Value) (xs : List Int) (w : World) (hp : w.heap[p]? = some (.cells #[.int .i64 k, .int .i64 at_] 35 (0, 0))) (hq : w.heap[q]? = some (.cells #[.int .i64 i] 3 (0, 0))) (hs : Seen sb v xs w) (hl : xs.length ≤ 1000) :
    Calls Try.prog 19 #[.pointer (some ⟨p, 0, none⟩), .pointer (some ⟨q, 0, none⟩), .pointer (some ⟨sb, 0, none⟩)] w fun e w' => (outOf k at_).ends e ∧ Adds sb v xs [i] w w' := by
  have A := act_w k at_ i sb v xs w hs hl
  have c0 := cell_at hp (i := 0) rfl
  have c1 := cell_at hp (i := 1) rfl
  have c2 := cell_at hq (i := 0) rfl
  clear hp hq hs
  go_enter Try.func19, Try.ntmps19
  go_wp2_with fail
  refine A.mono ?_
  rintro e w1 ⟨he, hA⟩
  have HA : Hid (Adds sb v xs [i] w w1) := hA
  clear hA A
  rcases ends_cases he with ⟨ho, rfl⟩ | ⟨hst, v, older, hv, rfl, hold⟩
  · go_wp2
    go_end0
    exact ⟨he, HA.out⟩
  · exact ⟨rfl, ends_stop hv hold, HA.out⟩

theorem nest_deed (k at_ i : Int) (p q sb : Nat) (v : Value) (xs : List Int) (w : World) (hp : w.heap[p]? = some (.cells #[.int .i64 k, .int .i64 at_] 35 (0, 0))) (hq : w.heap[q]? = some (.cells #[.int .i64 i] 3 (0, 0))) (hs : Seen sb v xs w) (hl : xs.length ≤ 1000) :
    Calls Try.prog 33 #[.pointer (some ⟨p, 0, none⟩), .pointer (some ⟨q, 0, none⟩), .pointer (some ⟨sb, 0, none⟩)] w fun e w' => (outOf k at_).ends e ∧ Adds sb v xs [i] w w' := by
  have A := act_w k at_ i sb v xs w hs hl
  have c0 := cell_at hp (i := 0) rfl
  have c1 := cell_at hp (i := 1) rfl
  have c2 := cell_at hq (i := 0) rfl
  clear hp hq hs
  go_enter Try.func33, Try.ntmps33
  go_wp2_with fail
  refine A.mono ?_
  rintro e w1 ⟨he, hA⟩
  have HA : Hid (Adds sb v xs [i] w w1) := hA
  clear hA A
  rcases ends_cases he with ⟨ho, rfl⟩ | ⟨hst, v, older, hv, rfl, hold⟩
  · go_wp2
    go_end0
    exact ⟨he, HA.out⟩
  · exact ⟨rfl, ends_stop hv hold, HA.out⟩

end Go.Proofs.Ytimjhjlgnoiimaa
