
/- Rows of keys in memory: read, appended to; no conditions but the rows' own. -/
import Derived.Test.YtkpcillgoeidaaaWalks
import Derived.Laws.OwnMore
import Derived.Deep.AppendLies
import Derived.Deep.RegionLaw
import Derived.OwnWalk
import Derived.Lib.SmallJoins
namespace Go.Proofs.Ytkpcillgoeidaaa
open Go.RowKit

abbrev Ks := List (Int × Int)
def kd (l : Ks) (i : Nat) : Int × Int := l.getD i (0, 0)
def kcells (l : Ks) : List Value := l.flatMap fun k => [.int .i64 k.1, .int .i64 k.2]

theorem info_key : (Try.prog.info? 61).map (fun i => (i.zero, i.size, i.bytes)) = some (some (.agg #[.int .i64 0, .int .i64 0]), 2, 16) := by kernel_rfl

theorem kcells_cons (k : Int × Int) (l : Ks) : kcells (k :: l) = .int .i64 k.1 :: .int .i64 k.2 :: kcells l := rfl
theorem kcells_app (a b : Ks) : kcells (a ++ b) = kcells a ++ kcells b := by simp [kcells]
theorem kcells_len (a : Ks) : (kcells a).length = a.length * 2 := by
  induction a with
  | nil => rfl
  | cons k l ih => rw [kcells_cons]; simp [ih]; omega

theorem kd_get {l : Ks} {i : Nat} (h : i < l.length) : kd l i = l[i] := by simp [kd, h]
theorem kd_zero (k : Int × Int) (l : Ks) : kd (k :: l) 0 = k := rfl
theorem kd_succ (k : Int × Int) (l : Ks) (i : Nat) : kd (k :: l) (i + 1) = kd l i := by simp [kd]

theorem kcells_at {l : Ks} {i : Nat} (h : i < l.length) : (kcells l)[i * 2]? = some (.int .i64 (kd l i).1) ∧ (kcells l)[i * 2 + 1]? = some (.int .i64 (kd l i).2) := by
  induction l generalizing i with
  | nil => simp at h
  | cons k l ih =>
    cases i with
    | zero => exact ⟨rfl, rfl⟩
    | succ i =>
      have := ih (i := i) (by simpa using h)
      rw [kcells_cons, kd_succ, show (i + 1) * 2 = i * 2 + 1 + 1 by omega]
      simpa using this

theorem kcells_get {l : Ks} {j : Nat} {u : Value} (h : (kcells l)[j]? = some u) : ∃ i, i < l.length ∧ ((j = i * 2 ∧ u = .int .i64 (kd l i).1) ∨ (j = i * 2 + 1 ∧ u = .int .i64 (kd l i).2)) := by
  have hj : j < l.length * 2 := by
    obtain ⟨h1, _⟩ := List.getElem?_eq_some_iff.1 h
    rw [kcells_len] at h1; exact h1
  have hi : j / 2 < l.length := by omega
  obtain ⟨a, b⟩ := kcells_at hi
  refine ⟨j / 2, hi, ?_⟩
  rcases Nat.mod_two_eq_zero_or_one j with e | e
  · have e' : j / 2 * 2 = j := by omega
    rw [e', h] at a
    exact .inl ⟨by omega, by simpa using a⟩
  · have e' : j / 2 * 2 + 1 = j := by omega
    rw [e', h] at b
    exact .inr ⟨by omega, by simpa using b⟩

theorem kcells_one (l : Ks) : ∀ u ∈ kcells l, u.oneCell' = true := by
  intro u hu
  obtain ⟨j, hj⟩ := List.mem_iff_getElem?.1 hu
  obtain ⟨i, _, ⟨_, rfl⟩ | ⟨_, rfl⟩⟩ := kcells_get hj <;> rfl

/-- What x has. -/
def SrcK (x : Value) (l : Ks) (w : World) : Prop :=
  ∃ (ao : Option Addr) (b o c : Nat), x = .slice ao l.length c ∧ (ao = none → c = 0) ∧ (0 < l.length → ao = some ⟨b, o, none⟩) ∧
    ∀ j, j < l.length → w.cell? ⟨b, o + j * 2, none⟩ = some (.int .i64 (kd l j).1) ∧ w.cell? ⟨b, o + j * 2 + 1, none⟩ = some (.int .i64 (kd l j).2)

theorem SrcK.kept {x : Value} {l : Ks} {w w' : World} (h : SrcK x l w) (hk : Kept (fun _ => False) w w') : SrcK x l w' := by
  obtain ⟨ao, b, o, c, e, h0, h1, h2⟩ := h
  exact ⟨ao, b, o, c, e, h0, h1, fun j hj => ⟨hk.cell (h2 j hj).1 (fun x => x), hk.cell (h2 j hj).2 (fun x => x)⟩⟩

theorem SrcK.none (w : World) : SrcK (.slice none 0 0) [] w := ⟨Option.none, 0, 0, 0, rfl, fun _ => rfl, fun h => by simp at h, fun j hj => by simp at hj⟩

theorem SrcK.row {w : World} {E : Nat} {cs : Array Value} {t : TypeId} {l l' : Ks} (h : w.heap[E]? = some (.cells cs t (0, 0))) (hc : cs.toList = kcells (l ++ l')) (c : Nat) : SrcK (.slice (some ⟨E, 0, Option.none⟩) l.length c) l w := by
  refine ⟨_, E, 0, c, rfl, (fun h => by cases h), fun _ => rfl, fun j hj => ?_⟩
  have e : kd (l ++ l') j = kd l j := by simp [kd, List.getD, List.getElem?_append_left hj]
  obtain ⟨a, b⟩ := kcells_at (l := l ++ l') (i := j) (by simp; omega)
  rw [← hc, e] at a b
  exact ⟨cell_at h (by simpa using a), cell_at h (by simpa using b)⟩

theorem own_src {w : World} {base n : Nat} {v : Value} {l : Ks} (h : w.ownsRow base 61 2 v n (kcells l)) : SrcK v l w := by
  have hl : l.length = n := by have := h.1; rw [kcells_len] at this; omega
  rcases h.2 with ⟨rfl, h0⟩ | ⟨g, cap, cur, rfl, hb, hg, hnc, hcm, hcs, htake⟩
  · obtain rfl : l = [] := List.eq_nil_of_length_eq_zero (by omega)
    exact SrcK.none w
  · refine ⟨_, g, 0, cap, by rw [hl], (fun h => by cases h), fun _ => rfl, fun j hj => ?_⟩
    obtain ⟨a, b⟩ := kcells_at hj
    have h1 := h.cells (g := g) rfl _ _ a
    have h2 := h.cells (g := g) rfl _ _ b
    rw [Addr.add_lit] at h1 h2
    exact ⟨h1, h2⟩

/-- v has the keys l, in a block that is younger than the world w0. -/
structure OwnK (w0 : World) (v : Value) (l : Ks) (w : World) : Prop where
  kept : Kept (fun _ => False) w0 w
  own : w.ownsRow w0.heap.size 61 2 v l.length (kcells l)

theorem OwnK.nil (w : World) : OwnK w (.slice none 0 0) [] w := ⟨Kept.refl _ _, World.ownsRow_nil _ _ _ _⟩

theorem OwnK.alloc {w0 w : World} {v : Value} {l : Ks} (h : OwnK w0 v l w) (o : Obj) : OwnK w0 v l (w.alloc o) := ⟨h.kept.alloc o, h.own.alloc o⟩

theorem own_kept {X : Nat → Prop} {w w' : World} {base : Nat} {e : TypeId} {size : Nat} {v : Value} {n : Nat} {xs : List Value} (h : w.ownsRow base e size v n xs) (hk : Kept X w w') (hx : ∀ k, v.ownBlock = some k → ¬ X k) : w'.ownsRow base e size v n xs := by
  refine ⟨h.1, ?_⟩
  rcases h.2 with hn | ⟨g, cap, cur, rfl, hb, hgg, rest⟩
  · exact .inl hn
  · exact .inr ⟨g, cap, cur, rfl, hb, hk.at hgg (hx g rfl), rest⟩

theorem OwnK.still {w0 w w' : World} {v : Value} {l : Ks} (h : OwnK w0 v l w) (hk : Kept (fun _ => False) w w') : OwnK w0 v l w' :=
  ⟨h.kept.trans hk (fun _ _ e => e), own_kept h.own hk (fun _ _ x => x)⟩

theorem OwnK.src {w0 w : World} {v : Value} {l : Ks} (h : OwnK w0 v l w) : SrcK v l w := own_src h.own

theorem OwnK.made {w0 w : World} (h : Kept (fun _ => False) w0 w) {E : Nat} (hE : w.heap.size = E) : OwnK w0 (.slice (some ⟨E, 0, none⟩) 0 0) [] (w.alloc (.cells #[] 61)) := by
  subst hE
  exact ⟨h.alloc _, World.ownsRow_made w #[] 0 h.size (by unfold maxLen; omega) rfl⟩

theorem OwnK.form {w0 w : World} {v : Value} {l : Ks} (h : OwnK w0 v l w) : (v = .slice none 0 0 ∧ l = []) ∨ ∃ g c, v = .slice (some ⟨g, 0, none⟩) l.length c ∧ l.length ≤ c := by
  rcases h.own.2 with ⟨rfl, h0⟩ | ⟨g, cap, cur, rfl, hb, hg, hnc, rest⟩
  · exact .inl ⟨rfl, List.eq_nil_of_length_eq_zero h0⟩
  · exact .inr ⟨g, cap, rfl, hnc⟩

theorem run_app (ty : TypeId) (w0 : World) (v : Value) (xs : Ks) (w : World) (h : OwnK w0 v xs w) (x : Value) (news : Ks) (hx : SrcK x news w) (hlen : xs.length + news.length ≤ 1000000) :
    ∃ v' w', (Builtin.append_ #[89, 89] ty #[v, x]).run Try.prog w = .ok v' w' ∧ OwnK w0 v' (xs ++ news) w' ∧ w.grownBy w' v.ownBlock := by
  obtain ⟨i0, hi, hz0, hz1, hz2⟩ := info_parts info_key
  obtain ⟨ao, b, o, c, rfl, hnc0, hao, hc⟩ := hx
  have some_case : ∀ a : Addr, (0 < news.length → a = ⟨b, o, none⟩) → ∃ v' w', (Builtin.append_ #[89, 89] ty #[v, .slice (some a) news.length c]).run Try.prog w = .ok v' w' ∧ OwnK w0 v' (xs ++ news) w' ∧ w.grownBy w' v.ownBlock := by
    intro a ha
    obtain ⟨v', w', hr, h2, h3, _, _⟩ := run_append_own_at (P := Try.prog) w w0.heap.size 89 ty 61 i0 (.agg #[.int .i64 0, .int .i64 0]) 2 16 Try.underlying89 hi hz0 hz1 hz2 rfl (by decide) v xs.length (kcells xs) h.own a news.length c (kcells news) (kcells_len _)
      (fun j u hu => by
        obtain ⟨i, hi, e⟩ := kcells_get hu
        obtain rfl := ha (by omega)
        rw [Addr.add_lit]
        rcases e with ⟨rfl, rfl⟩ | ⟨rfl, rfl⟩
        · exact (hc i hi).1
        · exact (hc i hi).2)
      (kcells_one _) (by unfold maxLen; omega) (by omega) h.kept.size
    refine ⟨v', w', hr, ⟨Kept.trans h.kept (Kept.grown (X := fun k => w0.heap.size ≤ k) (Kept.refl _ w) h3 (fun k e _ => (h.own.lt k e).1)) (fun k hk e => by omega), ?_⟩, h3⟩
    rw [kcells_app, List.length_append]
    exact h2
  cases ao with
  | some a => exact some_case a (fun h0 => by simpa using hao h0)
  | none =>
    have h0 : news.length = 0 := by
      rcases Nat.eq_zero_or_pos news.length with h0 | h0
      · exact h0
      · have := hao h0; cases this
    obtain rfl : news = [] := List.eq_nil_of_length_eq_zero h0
    obtain rfl := hnc0 rfl
    refine ⟨v, w, ?_, by simpa using h, ⟨rfl, rfl, rfl, Nat.le_refl _, fun _ _ _ => rfl⟩⟩
    rcases h.own.2 with ⟨rfl, h0⟩ | ⟨g, cap, cur, rfl, hb, hg, hnc, hcm, hcs, htake⟩
    · simp [Builtin.append_, run_underlying Try.underlying89, sizeOf, typeInfo, hi, Builtin.lenOf, Builtin.firstCells]
    · simp [Builtin.append_, run_underlying Try.underlying89, sizeOf, typeInfo, hi, Builtin.lenOf, Builtin.firstCells, hnc, storeCells]

/-- append, at the operation. -/
theorem wp_app {o : Oper} {a : Act} {w : World} {K : Act → World → Prop} {Q : Exit → Act → World → Prop}
    (s x : Operand) (hop : o.op = Op.call { callee := Callee.builtin Builtin.append, args := #[s, x], argTypes := #[89, 89] })
    (w0 : World) (xs news : Ks) (h : OwnK w0 (a.eval s) xs w) (hx : SrcK (a.eval x) news w) (hlen : xs.length + news.length ≤ 1000000)
    (hK : ∀ v' w', OwnK w0 v' (xs ++ news) w' → w.grownBy w' (a.eval s).ownBlock → K (a.put o.dst v') w') : o.wp Try.prog a w K Q := by
  obtain ⟨v', w', hr, h2, h3⟩ := run_app o.type w0 _ xs w h _ news hx hlen
  unfold Oper.wp execOp
  simp only [hop, resolve, invoke, builtin, Sem.run_bind, Sem.run_pure, Result.andThen_ok, List.map_toArray, List.map_cons, List.map_nil, hr]
  exact hK v' w' h2 h3

/-- append, at the list of a plain region's operations. -/
theorem list_app {ops : Array Oper} {rest : List Oper} {o : Oper} {a : Act} {w : World} {Q : Exit → Act → World → Prop}
    (hg : o.guard = none) (s x : Operand) (hop : o.op = Op.call { callee := Callee.builtin Builtin.append, args := #[s, x], argTypes := #[89, 89] })
    (w0 : World) (xs news : Ks) (h : OwnK w0 (a.eval s) xs w) (hx : SrcK (a.eval x) news w) (hlen : xs.length + news.length ≤ 1000000)
    (hK : ∀ v' w', OwnK w0 v' (xs ++ news) w' → w.grownBy w' (a.eval s).ownBlock → wpList Try.prog ops Q rest (a.put o.dst v') w') : wpList Try.prog ops Q (o :: rest) a w :=
  wpList_plain hg fun _ hK' => wp_app s x hop w0 xs news h hx hlen fun v' w' h2 h3 => hK' _ _ (hK v' w' h2 h3)

/-- append, as one step of a region that draws its order. -/
theorem step_app {ops : Array Oper} {o : Oper} {a : Act} {w : World} {K : Act → World → Prop} {Q : Exit → Act → World → Prop} {E : Prop}
    (hg : o.guard = none) (s x : Operand) (hop : o.op = Op.call { callee := Callee.builtin Builtin.append, args := #[s, x], argTypes := #[89, 89] })
    (w0 : World) (xs news : Ks) (h : OwnK w0 (a.eval s) xs w) (hx : SrcK (a.eval x) news w) (hlen : xs.length + news.length ≤ 1000000)
    (hK : ∀ v' w', OwnK w0 v' (xs ++ news) w' → w.grownBy w' (a.eval s).ownBlock → K (a.put o.dst v') w') :
    if Region.wanted o (yielded ops a.tmps) = true then Oper.wp Try.prog o a w K Q else E := by
  have hw : Region.wanted o (yielded ops a.tmps) = true := by simp [Region.wanted, hg]
  rw [if_pos hw]
  exact wp_app s x hop w0 xs news h hx hlen hK

/-- What is appended lay there from the first. -/
theorem step_old {ops : Array Oper} {o : Oper} {a : Act} {w : World} {K : Act → World → Prop} {Q : Exit → Act → World → Prop} {E : Prop}
    (hg : o.guard = none) (s x : Operand) (hop : o.op = Op.call { callee := Callee.builtin Builtin.append, args := #[s, x], argTypes := #[89, 89] })
    (w0 : World) (xs news : Ks) (h : OwnK w0 (a.eval s) xs w) (hx : SrcK (a.eval x) news w0) (hlen : xs.length + news.length ≤ 1000000)
    (hK : ∀ v' w', OwnK w0 v' (xs ++ news) w' → w.grownBy w' (a.eval s).ownBlock → K (a.put o.dst v') w') :
    if Region.wanted o (yielded ops a.tmps) = true then Oper.wp Try.prog o a w K Q else E :=
  step_app hg s x hop w0 xs news h (hx.kept h.kept) hlen hK
end Go.Proofs.Ytkpcillgoeidaaa
