/- What is to be done last, behind what was to be done last; no conditions but the row's own. -/
import Derived.Test.YtimjhjlgnoiimaaAct
import Derived.Test.YtimjhjlgnoiimaaWithin
namespace Go.Proofs.Ytimjhjlgnoiimaa
open Go.RowKit

theorem after_deed0 (k at_ : Int) (p sb : Nat) (v : Value) (xs : List Int) (w : World) (hp : w.heap[p]? = some (.cells #[.int .i64 k, .int .i64 at_] 35 (0, 0))) (hs : Seen sb v xs w) (hl : xs.length ≤ 1000) :
    Calls Try.prog 22 #[.pointer (some ⟨p, 0, none⟩), .pointer (some ⟨sb, 0, none⟩)] w fun e w' => (outOf k at_).ends e ∧ Adds sb v xs [0] w w' := by
  have A := act_w k at_ 0 sb v xs w hs hl
  have c0 := cell_at hp (i := 0) rfl
  have c1 := cell_at hp (i := 1) rfl
  clear hp hs
  go_enter Try.func22, Try.ntmps22
  go_wp2_with fail
  refine A.mono ?_
  rintro e w1 ⟨he, hA⟩
  have HA : Hid (Adds sb v xs [0] w w1) := hA
  clear hA A
  rcases ends_cases he with ⟨ho, rfl⟩ | ⟨hst, v, older, hv, rfl, hold⟩
  · go_wp2
    go_end0
    exact ⟨he, HA.out⟩
  · exact ⟨rfl, ends_stop hv hold, HA.out⟩

theorem after_deed9 (k at_ : Int) (p sb : Nat) (v : Value) (xs : List Int) (w : World) (hp : w.heap[p]? = some (.cells #[.int .i64 k, .int .i64 at_] 35 (0, 0))) (hs : Seen sb v xs w) (hl : xs.length ≤ 1000) :
    Calls Try.prog 28 #[.pointer (some ⟨p, 0, none⟩), .pointer (some ⟨sb, 0, none⟩)] w fun e w' => (outOf k at_).ends e ∧ Adds sb v xs [9] w w' := by
  have A := act_w k at_ 9 sb v xs w hs hl
  have c0 := cell_at hp (i := 0) rfl
  have c1 := cell_at hp (i := 1) rfl
  clear hp hs
  go_enter Try.func28, Try.ntmps28
  go_wp2_with fail
  refine A.mono ?_
  rintro e w1 ⟨he, hA⟩
  have HA : Hid (Adds sb v xs [9] w w1) := hA
  clear hA A
  rcases ends_cases he with ⟨ho, rfl⟩ | ⟨hst, v, older, hv, rfl, hold⟩
  · go_wp2
    go_end0
    exact ⟨he, HA.out⟩
  · exact ⟨rfl, ends_stop hv hold, HA.out⟩

/-- A number that is added by itself. -/
theorem after_add (j : Int) (q sb : Nat) (v : Value) (xs : List Int) (w : World) (hq : w.heap[q]? = some (.cells #[.int .i64 j] 3 (0, 0))) (hs : Seen sb v xs w) (hl : xs.length ≤ 1000) :
    Calls Try.prog 26 #[.pointer (some ⟨sb, 0, none⟩), .pointer (some ⟨q, 0, none⟩)] w fun e w' => Out.done.ends e ∧ Adds sb v xs [j] w w' := by
  obtain ⟨i0, hi, hz0, hz1, hz2⟩ := info_parts info_int
  have c0 := cell_at hs.box (i := 0) rfl
  have l0 := lt_at hs.box
  have f0 := free_at hs.box 0
  have c2 := cell_at hq (i := 0) rfl
  go_enter Try.func26, Try.ntmps26
  go_wp2_with (at_builtin; refine append_new _ rfl _ _ 27 rfl 3 i0 (.int .i64 0) 8 Try.underlying27 hi hz0 hz1 hz2 rfl _ _ _ rfl (hs.own.alloc _) ⟨w.heap.size, 0, none⟩ 1 (.int .i64 j) rfl ?c1 rfl ?c3 ?c4 ?_)
  case c1 => exact cell_at (alloc_at _ _) (i := 0) rfl
  case c3 => unfold maxLen; omega
  case c4 => omega
  intro g cap w1 hown hgr hg
  obtain ⟨a1, a2⟩ := append_adds hs hown (by
    intro k e
    have e' : g = k := by simpa [Value.ownBlock] using e
    subst e'
    rcases hg with h | h
    · exact .inl h
    · exact .inr (by have h' : w.heap.size + 1 ≤ g := by simpa using h
                     omega)) hgr
  have HA : Hid (Adds sb v xs [j] w _) := a2
  have c1 := cell_at a1 (i := 0) rfl
  have f1 := free_at a1 0
  clear hown hgr hg a1 a2 c0 f0 hs
  go_wp2
  go_end0
  exact ⟨rfl, HA.out⟩

theorem seen_form {sb : Nat} {v : Value} {xs : List Int} {w : World} (h : Seen sb v xs w) (hx : 0 < xs.length) : ∃ g cap, v = .slice (some ⟨g, 0, none⟩) xs.length cap ∧ g < w.heap.size ∧ xs.length ≤ cap ∧ g ≠ sb ∧ ∀ i (hi : i < xs.length), w.cell? ⟨g, i, none⟩ = some (.int .i64 xs[i]) := by
  have hne := h.row_ne
  rcases h.own.2 with ⟨_, h0⟩ | ⟨g, cap, cur, rfl, hb, hg, hc, _⟩
  · omega
  · refine ⟨g, cap, rfl, lt_at hg, hc, fun e => hne (by simp [Value.ownBlock, e]), fun i hi => ?_⟩
    have := h.own.cells (g := g) rfl i (.int .i64 xs[i]) (by simp [hi])
    rw [Addr.add_lit, Nat.zero_add] at this
    exact this

/-- How the functions lie: the first deed, and as many last ones round it. -/
def Chain (k at_ : Int) (sb : Nat) : Nat → Value → World → Prop
  | 0, fv, w => ∃ p, fv = .func (.func 22) #[] #[.pointer (some ⟨p, 0, none⟩), .pointer (some ⟨sb, 0, none⟩)] ∧ p ≠ sb ∧ w.heap[p]? = some (.cells #[.int .i64 k, .int .i64 at_] 35 (0, 0))
  | i + 1, fv, w => ∃ p q fv', fv = .func (.func 24) #[] #[.pointer (some ⟨p, 0, none⟩), .pointer (some ⟨sb, 0, none⟩), .pointer (some ⟨q, 0, none⟩)] ∧ p ≠ sb ∧ q ≠ sb ∧
      w.heap[p]? = some (.cells #[fv'] 1 (0, 0)) ∧ w.heap[q]? = some (.cells #[.int .i64 ((i + 1 : Nat) : Int)] 3 (0, 0)) ∧ Chain k at_ sb i fv' w

theorem Chain.kept {k at_ : Int} {sb : Nat} {w w' : World} (hk : Kept (fun x => x = sb) w w') : ∀ {i : Nat} {fv : Value}, Chain k at_ sb i fv w → Chain k at_ sb i fv w'
  | 0, _, ⟨p, rfl, hp, h⟩ => ⟨p, rfl, hp, hk.at h hp⟩
  | _ + 1, _, ⟨p, q, fv', rfl, hp, hq, h1, h2, h3⟩ => ⟨p, q, fv', rfl, hp, hq, hk.at h1 hp, hk.at h2 hq, Chain.kept hk h3⟩

/-- The numbers that are added: 0, 1 .. i. -/
def upto (i : Nat) : List Int := (List.range (i + 1)).map (fun n : Nat => (n : Int))

theorem upto_succ (i : Nat) : upto (i + 1) = upto i ++ [((i + 1 : Nat) : Int)] := by simp [upto, List.range_succ]

theorem upto_length (i : Nat) : (upto i).length = i + 1 := by simp [upto]

/-- Rows that came later lie behind all that was there. -/
theorem kept_seen {sb : Nat} {v : Value} {W w w' : World} (h : Kept (fun x => x = sb) W w) (hv : ∀ k, v.ownBlock = some k → W.heap.size ≤ k) (g : Kept (fun k => k = sb ∨ v.ownBlock = some k) w w') : Kept (fun x => x = sb) W w' :=
  h.trans g (by
    rintro k hk (e | e)
    · exact e
    · have := hv k e; omega)

theorem chain_run (k at_ : Int) (sb : Nat) (W : World) : ∀ (i : Nat) (fv : Value), i ≤ 100 → Chain k at_ sb i fv W → ∀ (w : World) (v : Value) (xs : List Int), Kept (fun x => x = sb) W w → (∀ k, v.ownBlock = some k → W.heap.size ≤ k) → Seen sb v xs w → xs.length + i ≤ 900 →
    Calls Try.prog 39 #[fv] w fun e w' => (outOf k at_).ends e ∧ Adds sb v xs (upto i) w w' := by
  intro i
  induction i with
  | zero =>
    rintro fv _ ⟨p, rfl, hp, h⟩ w v xs hk hv hs hl
    exact run_w _ _ (fun _ _ => by kernel_rfl) _ _ _ (after_deed0 k at_ p sb v xs w (hk.at h hp) hs (by omega))
  | succ i ih =>
    rintro fv hi ⟨p, q, fv', rfl, hp, hq, h1, h2, h3⟩ w v xs hk hv hs hl
    refine run_w _ _ (fun _ _ => by kernel_rfl) _ _ _ ?_
    have c0 := cell_at (hk.at h1 hp) (i := 0) rfl
    have I := ih fv' (by omega) h3 w v xs hk hv hs (by omega)
    have A := after_w fv' (.func (.func 26) #[] #[.pointer (some ⟨sb, 0, none⟩), .pointer (some ⟨q, 0, none⟩)]) (outOf k at_) .done (fun w1 => Adds sb v xs (upto i) w w1) (fun w2 => Adds sb v xs (upto (i + 1)) w w2) w I (by
      intro u w1 hA
      have hA' := hA
      obtain ⟨k1, v1, s1, r1⟩ := hA
      have q1 := (kept_seen hk hv k1).at h2 hq
      refine run_d _ _ (fun _ _ => by kernel_rfl) .done _ u w1 ?_
      refine (after_add ((i + 1 : Nat) : Int) q sb v1 (xs ++ upto i) w1 q1 s1 (by simp [upto_length]; omega)).mono ?_
      rintro e w2 ⟨he, hA2⟩
      refine ⟨he, ?_⟩
      rw [upto_succ]
      exact hA'.step s1 hA2)
    have hmf := makeF
    clear h1 h2 h3 ih I hs hk hv
    go_enter Try.func24, Try.ntmps24
    go_wp2_with fail
    refine A.mono ?_
    rw [over_done]
    rintro e w1 ⟨he, hA⟩
    have HA : Hid (Adds sb v xs (upto (i + 1)) w w1) := hA
    clear hA A
    rcases ends_cases he with ⟨ho, rfl⟩ | ⟨hst, v, older, hv, rfl, hold⟩
    · go_wp2
      go_end0
      exact ⟨he, HA.out⟩
    · exact ⟨rfl, ends_stop hv hold, HA.out⟩

/-- The outermost: the chain, and the last deed behind it. -/
theorem after_outer (k at_ k' at' : Int) (sb r p : Nat) (i : Nat) (fv : Value) (W : World) (hi : i ≤ 100) (hc : Chain k at_ sb i fv W) (hr : W.heap[r]? = some (.cells #[fv] 1 (0, 0))) (hrs : r ≠ sb)
    (hp : W.heap[p]? = some (.cells #[.int .i64 k', .int .i64 at'] 35 (0, 0))) (hps : p ≠ sb) (w : World) (hk : Kept (fun x => x = sb) W w) (hs : Seen sb (.slice none 0 0) [] w) :
    Calls Try.prog 27 #[.pointer (some ⟨r, 0, none⟩), .pointer (some ⟨p, 0, none⟩), .pointer (some ⟨sb, 0, none⟩)] w fun e w' => ((outOf k at_).over (outOf k' at')).ends e ∧ Adds sb (.slice none 0 0) [] (upto i ++ [9]) w w' := by
  have hv : ∀ k, (Value.slice none 0 0).ownBlock = some k → W.heap.size ≤ k := by intro k e; simp [Value.ownBlock] at e
  have I := chain_run k at_ sb W i fv hi hc w (.slice none 0 0) [] hk hv hs (by simp; omega)
  have A := after_w fv (.func (.func 28) #[] #[.pointer (some ⟨p, 0, none⟩), .pointer (some ⟨sb, 0, none⟩)]) (outOf k at_) (outOf k' at') (fun w1 => Adds sb (.slice none 0 0) [] (upto i) w w1) (fun w2 => Adds sb (.slice none 0 0) [] (upto i ++ [9]) w w2) w I (by
    intro u w1 hA
    have hA' := hA
    obtain ⟨k1, v1, s1, r1⟩ := hA
    have p1 := (kept_seen hk hv k1).at hp hps
    refine run_d _ _ (fun _ _ => by kernel_rfl) _ _ u w1 ?_
    refine (after_deed9 k' at' p sb v1 ([] ++ upto i) w1 p1 s1 (by simp [upto_length]; omega)).mono ?_
    rintro e w2 ⟨he, hA2⟩
    exact ⟨he, hA'.step s1 hA2⟩)
  have c0 := cell_at (hk.at hr hrs) (i := 0) rfl
  have hmf := makeF
  clear hc hr hp hk hs hv I
  go_enter Try.func27, Try.ntmps27
  go_wp2_with fail
  refine A.mono ?_
  rintro e w1 ⟨he, hA⟩
  have HA : Hid (Adds sb _ [] (upto i ++ [9]) w w1) := hA
  clear hA A
  rcases ends_cases he with ⟨ho, rfl⟩ | ⟨hst, v, older, hv, rfl, hold⟩
  · go_wp2
    go_end0
    exact ⟨he, HA.out⟩
  · exact ⟨rfl, ends_stop hv hold, HA.out⟩

/-- The guard round it. -/
theorem after_guard (k at_ k' at' : Int) (sb r p : Nat) (i : Nat) (fv : Value) (w : World) (hi : i ≤ 100) (hc : Chain k at_ sb i fv w) (hr : w.heap[r]? = some (.cells #[fv] 1 (0, 0))) (hrs : r ≠ sb)
    (hp : w.heap[p]? = some (.cells #[.int .i64 k', .int .i64 at'] 35 (0, 0))) (hps : p ≠ sb) (hs : Seen sb (.slice none 0 0) [] w) :
    Calls Try.prog 8 #[.func (.func 27) #[] #[.pointer (some ⟨r, 0, none⟩), .pointer (some ⟨p, 0, none⟩), .pointer (some ⟨sb, 0, none⟩)]] w fun e w' =>
      e = .returned (.tuple #[((outOf k at_).over (outOf k' at')).told, .bool ((outOf k at_).over (outOf k' at')).stopped]) ∧ Adds sb (.slice none 0 0) [] (upto i ++ [9]) w w' :=
  guard_adds hs _ _ (run_w _ _ (fun _ _ => by kernel_rfl) _ _ _ (after_outer k at_ k' at' sb r p i fv w hi hc hr hrs hp hps (inGuard w) (((Kept.refl _ w).alloc _).alloc _) (inGuard_seen hs)))

end Go.Proofs.Ytimjhjlgnoiimaa
