/- Rows of numbers of the call's own, appended to; a list that turns; no conditions but the rows' own. -/
import Derived.Test.YtkmfeenooidbhaaReads
import Derived.Deep.RegionLaw
namespace Go.Proofs.Ytkmfeenooidbhaa
open Go.RowKit

/-- v has the numbers xs, in a block that is younger than the world w0. -/
structure OwnI (w0 : World) (v : Value) (xs : List Int) (w : World) : Prop where
  kept : Kept (fun _ => False) w0 w
  own : w.ownsRow w0.heap.size 3 1 v xs.length (ints xs)

theorem OwnI.nil (w : World) : OwnI w (.slice none 0 0) [] w := ⟨Kept.refl _ _, World.ownsRow_nil _ _ _ _⟩

theorem OwnI.alloc {w0 w : World} {v : Value} {xs : List Int} (h : OwnI w0 v xs w) (o : Obj) : OwnI w0 v xs (w.alloc o) := ⟨h.kept.alloc o, h.own.alloc o⟩

theorem OwnI.made {w0 w : World} (h : Kept (fun _ => False) w0 w) {E : Nat} (hE : w.heap.size = E) : OwnI w0 (.slice (some ⟨E, 0, none⟩) 0 0) [] (w.alloc (.cells #[] 3)) := by
  subst hE
  exact ⟨h.alloc _, World.ownsRow_made w #[] 0 h.size (by unfold maxLen; omega) rfl⟩

theorem run_app (ty : TypeId) (w0 : World) (v : Value) (xs : List Int) (w : World) (h : OwnI w0 v xs w) (x : Value) (news : List Int) (hx : SrcI x news w) (hlen : xs.length + news.length ≤ 1000000) :
    ∃ v' w', (Builtin.append_ #[30, 30] ty #[v, x]).run Try.prog w = .ok v' w' ∧ OwnI w0 v' (xs ++ news) w' ∧ w.grownBy w' v.ownBlock := by
  obtain ⟨i0, hi, hz0, hz1, hz2⟩ := info_parts info_int
  rcases hx with ⟨b, o, c, rfl, hb, hc⟩ | ⟨rfl, rfl⟩
  · obtain ⟨v', w', hr, h2, h3, _, _⟩ := run_append_own_at (P := Try.prog) w w0.heap.size 30 ty 3 i0 (.int .i64 0) 1 8 Try.underlying30 hi hz0 hz1 hz2 rfl (by decide) v xs.length (ints xs) h.own ⟨b, o, none⟩ news.length c (ints news) (by simp [ints])
      (fun j u hu => by
        rw [Addr.add_lit]
        simp only [ints, List.getElem?_map, Option.map_eq_some_iff] at hu
        obtain ⟨y, hy, rfl⟩ := hu
        exact hc j y hy)
      (fun u hu => by
        simp only [ints, List.mem_map] at hu
        obtain ⟨y, _, rfl⟩ := hu
        rfl) (by unfold maxLen; omega) (by omega) h.kept.size
    refine ⟨v', w', hr, ⟨Kept.trans h.kept (Kept.grown (X := fun k => w0.heap.size ≤ k) (Kept.refl _ w) h3 (fun k e _ => (h.own.lt k e).1)) (fun k hk e => by omega), ?_⟩, h3⟩
    rw [ints_app, List.length_append]
    exact h2
  · refine ⟨v, w, ?_, by simpa using h, ⟨rfl, rfl, rfl, Nat.le_refl _, fun _ _ _ => rfl⟩⟩
    rcases h.own.2 with ⟨rfl, h0⟩ | ⟨g, cap, cur, rfl, hb, hg, hnc, hcm, hcs, htake⟩
    · simp [Builtin.append_, run_underlying Try.underlying30, sizeOf, typeInfo, hi, Builtin.lenOf, Builtin.firstCells]
    · simp [Builtin.append_, run_underlying Try.underlying30, sizeOf, typeInfo, hi, Builtin.lenOf, Builtin.firstCells, hnc, storeCells]

/-- append, at the operation. -/
theorem wp_app {o : Oper} {a : Act} {w : World} {K : Act → World → Prop} {Q : Exit → Act → World → Prop}
    (s x : Operand) (hop : o.op = Op.call { callee := Callee.builtin Builtin.append, args := #[s, x], argTypes := #[30, 30] })
    (w0 : World) (xs news : List Int) (h : OwnI w0 (a.eval s) xs w) (hx : SrcI (a.eval x) news w) (hlen : xs.length + news.length ≤ 1000000)
    (hK : ∀ v' w', OwnI w0 v' (xs ++ news) w' → w.grownBy w' (a.eval s).ownBlock → K (a.put o.dst v') w') : o.wp Try.prog a w K Q := by
  obtain ⟨v', w', hr, h2, h3⟩ := run_app o.type w0 _ xs w h _ news hx hlen
  unfold Oper.wp execOp
  simp only [hop, resolve, invoke, builtin, Sem.run_bind, Sem.run_pure, Result.andThen_ok, List.map_toArray, List.map_cons, List.map_nil, hr]
  exact hK v' w' h2 h3

/-- append, at the list of a plain region's operations. -/
theorem list_app {ops : Array Oper} {rest : List Oper} {o : Oper} {a : Act} {w : World} {Q : Exit → Act → World → Prop}
    (hg : o.guard = none) (s x : Operand) (hop : o.op = Op.call { callee := Callee.builtin Builtin.append, args := #[s, x], argTypes := #[30, 30] })
    (w0 : World) (xs news : List Int) (h : OwnI w0 (a.eval s) xs w) (hx : SrcI (a.eval x) news w) (hlen : xs.length + news.length ≤ 1000000)
    (hK : ∀ v' w', OwnI w0 v' (xs ++ news) w' → w.grownBy w' (a.eval s).ownBlock → wpList Try.prog ops Q rest (a.put o.dst v') w') : wpList Try.prog ops Q (o :: rest) a w :=
  wpList_plain hg fun _ hK' => wp_app s x hop w0 xs news h hx hlen fun v' w' h2 h3 => hK' _ _ (hK v' w' h2 h3)

/-- append, as one step of a region that draws its order. -/
theorem step_app {ops : Array Oper} {o : Oper} {a : Act} {w : World} {K : Act → World → Prop} {Q : Exit → Act → World → Prop} {E : Prop}
    (hg : o.guard = none) (s x : Operand) (hop : o.op = Op.call { callee := Callee.builtin Builtin.append, args := #[s, x], argTypes := #[30, 30] })
    (w0 : World) (xs news : List Int) (h : OwnI w0 (a.eval s) xs w) (hx : SrcI (a.eval x) news w) (hlen : xs.length + news.length ≤ 1000000)
    (hK : ∀ v' w', OwnI w0 v' (xs ++ news) w' → w.grownBy w' (a.eval s).ownBlock → K (a.put o.dst v') w') :
    if Region.wanted o (yielded ops a.tmps) = true then Oper.wp Try.prog o a w K Q else E := by
  have hw : Region.wanted o (yielded ops a.tmps) = true := by simp [Region.wanted, hg]
  rw [if_pos hw]
  exact wp_app s x hop w0 xs news h hx hlen hK

/-- What is appended lay there from the first. -/
theorem step_old {ops : Array Oper} {o : Oper} {a : Act} {w : World} {K : Act → World → Prop} {Q : Exit → Act → World → Prop} {E : Prop}
    (hg : o.guard = none) (s x : Operand) (hop : o.op = Op.call { callee := Callee.builtin Builtin.append, args := #[s, x], argTypes := #[30, 30] })
    (w0 : World) (xs news : List Int) (h : OwnI w0 (a.eval s) xs w) (hx : SrcI (a.eval x) news w0) (hlen : xs.length + news.length ≤ 1000000)
    (hK : ∀ v' w', OwnI w0 v' (xs ++ news) w' → w.grownBy w' (a.eval s).ownBlock → K (a.put o.dst v') w') :
    if Region.wanted o (yielded ops a.tmps) = true then Oper.wp Try.prog o a w K Q else E :=
  step_app hg s x hop w0 xs news h (hx.kept h.kept (by simp)) hlen hK

/-- A part of a row. -/
theorem SrcI.part {w : World} {base g n cap : Nat} {xs : List Int} (h : w.ownsRow base 3 1 (.slice (some ⟨g, 0, none⟩) n cap) n (ints xs)) (o m c : Nat) (hm : o + m ≤ n) : SrcI (.slice (some ⟨g, o, none⟩) m c) ((xs.drop o).take m) w := by
  have hl : xs.length = n := by have := h.1; rw [ints_len] at this; omega
  refine .inl ⟨g, o, c, by congr 1; simp [List.length_take, List.length_drop]; omega, (h.lt g rfl).2, fun j u hu => ?_⟩
  have hj : j < m := by
    have := List.getElem?_eq_some_iff.1 hu
    obtain ⟨h1, _⟩ := this
    simp at h1
    omega
  have h2 : xs[o + j]? = some u := by
    rw [List.getElem?_take_of_lt hj, List.getElem?_drop] at hu
    exact hu
  have hc := h.cells (g := g) rfl (o + j) (.int .i64 u) (by simp [ints, h2])
  rw [Addr.add_lit, Nat.zero_add] at hc
  exact hc

theorem list_w (B N : Nat) (vs : List Value) (ls : List (List Int)) (i : Nat) (hi : i < vs.length) (hN : N ≤ 1000) (w : World) (h : HeldIn B N vs ls w) :
    Calls Try.prog 14 #[.pointer (some ⟨B + 1, 0, none⟩), .int .i64 i] w fun e w' => ∃ v, e = .returned v ∧ OwnI w v (ld ls i) w' := by
  have c1 := h.list hi
  have hcap := h.cap i hi
  have HS : Hid (SrcI (vd vs i) (ld ls i) w) := h.src hi
  have O := of_ok B N vs ls i hi w h
  clear h
  go_enter Try.func14, Try.ntmps14
  go_wp2_with fail
  refine O.mono ?_
  rintro e w1 ⟨rfl, rfl⟩
  clear O
  go_wp2_with (at_builtin; refine list_app rfl _ _ rfl w1 [] (ld ls i) (OwnI.nil w1) HS.out (by simp; omega) ?_; intro v w2 h2 _)
  go_ret
  exact ⟨v, rfl, h2⟩

/-- One list turns. -/
theorem HeldIn.put {B N M : Nat} {vs : List Value} {ls : List (List Int)} {w w1 : World} {i : Nat} {v' : Value} {l' : List Int} (h : HeldIn B N vs ls w) (hi : i < vs.length)
    (hk : Kept (fun k => (vd vs i).ownBlock = some k) w w1) (hown : w1.ownsRow (B + 2) 3 1 v' l'.length (ints l')) (hat : ∀ k, v'.ownBlock = some k → (vd vs i).ownBlock = some k ∨ w.heap.size ≤ k)
    (hg : Good (ls.set i l')) (hl : l'.length ≤ M) (hM : N ≤ M) :
    HeldIn B M (vs.set i v') (ls.set i l') (w1.setCell ⟨B, i, none⟩ v') ∧ Kept (Mine B vs) w (w1.setCell ⟨B, i, none⟩ v') ∧ ∀ k, Mine B (vs.set i v') k → Mine B vs k ∨ w.heap.size ≤ k := by
  have hil : i < ls.length := by rw [h.len]; exact hi
  have hoff : ∀ {k : Nat} {c : Array Value} {t : TypeId}, w.heap[k]? = some (.cells c t (0, 0)) → t ≠ 3 → w1.heap[k]? = some (.cells c t (0, 0)) := fun hc ht => hk.at hc (fun e => row_off (h.each i hi) hc ht e)
  have htab := hoff h.tab (by decide)
  have hbox := hoff h.box (by decide)
  have hlow : ∀ j k, j < vs.length → (vd vs j).ownBlock = some k → B + 2 ≤ k ∧ k < w.heap.size := fun j k hj e => (h.each j hj).lt k e
  have hnot : ∀ k, v'.ownBlock = some k → B + 2 ≤ k := fun k e => (hown.lt k e).1
  refine ⟨⟨?_, ?_, by simp [h.len], fun j hj => ?_, fun j m k hj hm ej em => ?_, hg, fun j hj => ?_⟩, ?_, ?_⟩
  · rw [set_off _ (by simp), List.length_set]; exact hbox
  · rw [set_at htab]; simp
  · rw [List.length_set] at hj
    rw [vd_set hi, ld_set hil]
    have hk2 : Kept (fun k => k = B) w1 (w1.setCell ⟨B, i, none⟩ v') := by
      refine Kept.setCell (Kept.refl _ _) ?_ _
      intro _; rfl
    by_cases e : i = j
    · rw [if_pos e, if_pos e]
      exact own_kept hown hk2 (fun k e x => by have := hnot k e; omega)
    · rw [if_neg e, if_neg e]
      refine own_kept (own_kept (h.each j hj) hk (fun k e1 e2 => e (h.apart i j k hi hj e2 e1))) hk2 (fun k e1 x => ?_)
      have := hlow j k hj e1
      omega
  · rw [List.length_set] at hj hm
    rw [vd_set hi] at ej em
    by_cases e1 : i = j <;> by_cases e2 : i = m
    · omega
    · rw [if_pos e1] at ej; rw [if_neg e2] at em
      rcases hat k ej with x | x
      · exact absurd (h.apart i m k hi hm x em) e2
      · have := hlow m k hm em; omega
    · rw [if_neg e1] at ej; rw [if_pos e2] at em
      rcases hat k em with x | x
      · exact absurd (h.apart i j k hi hj x ej) e1
      · have := hlow j k hj ej; omega
    · rw [if_neg e1] at ej; rw [if_neg e2] at em
      exact h.apart j m k hj hm ej em
  · rw [List.length_set] at hj
    rw [ld_set hil]
    by_cases e : i = j
    · rw [if_pos e]; exact hl
    · rw [if_neg e]; exact Nat.le_trans (h.cap j hj) hM
  · refine Kept.setCell (hk.mono (fun k _ e => .inr ⟨i, hi, e⟩)) ?_ _
    intro _; exact .inl rfl
  · rintro k (rfl | ⟨j, hj, e⟩)
    · exact .inl (.inl rfl)
    · rw [List.length_set] at hj
      rw [vd_set hi] at e
      by_cases e1 : i = j
      · rw [if_pos e1] at e
        rcases hat k e with x | x
        · exact .inl (.inr ⟨i, hi, x⟩)
        · exact .inr x
      · rw [if_neg e1] at e; exact .inl (.inr ⟨j, hj, e⟩)
end Go.Proofs.Ytkmfeenooidbhaa
