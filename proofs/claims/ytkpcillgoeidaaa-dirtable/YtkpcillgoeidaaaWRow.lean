
/- Rows of writes in memory: read, appended to; no conditions but the rows' own. -/
import Derived.Test.YtkpcillgoeidaaaThose
namespace Go.Proofs.Ytkpcillgoeidaaa
open Go.RowKit
set_option maxRecDepth 100000
set_option linter.unusedSimpArgs false

theorem flat_len {α : Type} (cs : α → List Value) (n : Nat) (hn : ∀ a, (cs a).length = n) (l : List α) : (l.flatMap cs).length = l.length * n := by
  induction l with
  | nil => simp
  | cons a r ih => rw [List.flatMap_cons, List.length_append, ih, hn, List.length_cons, Nat.succ_mul]; omega

theorem flat_get {α : Type} (cs : α → List Value) (n : Nat) (hn : ∀ a, (cs a).length = n) : ∀ (l : List α) (i r : Nat), r < n → (l.flatMap cs)[i * n + r]? = (l[i]?).bind (fun a => (cs a)[r]?)
  | [], i, r, _ => by simp
  | a :: l, 0, r, hr => by
    rw [List.flatMap_cons, Nat.zero_mul, Nat.zero_add, List.getElem?_append_left (by rw [hn]; exact hr)]
    rfl
  | a :: l, i + 1, r, hr => by
    rw [List.flatMap_cons, List.getElem?_append_right (by rw [hn, Nat.succ_mul]; omega), hn, show (i + 1) * n + r - n = i * n + r by rw [Nat.succ_mul]; omega, flat_get cs n hn l i r hr]
    simp

/-- What x has. -/
def SrcR {α : Type} (cs : α → List Value) (n : Nat) (x : Value) (l : List α) (w : World) : Prop :=
  ∃ (ao : Option Addr) (b o c : Nat), x = .slice ao l.length c ∧ (ao = none → c = 0) ∧ (0 < l.length → ao = some ⟨b, o, none⟩) ∧ l.length ≤ c ∧ ∀ j a, l[j]? = some a → w.rangeAt b (o + j * n) (cs a)

section
variable {α : Type} {cs : α → List Value} {n : Nat}

theorem SrcR.kept {x : Value} {l : List α} {w w' : World} (h : SrcR cs n x l w) (hk : Kept (fun _ => False) w w') : SrcR cs n x l w' := by
  obtain ⟨ao, b, o, c, e, h0, h1, hc, h2⟩ := h
  exact ⟨ao, b, o, c, e, h0, h1, hc, fun j a ha => range_kept (h2 j a ha) hk (fun x => x)⟩

theorem SrcR.none (w : World) : SrcR cs n (.slice none 0 0) [] w := ⟨Option.none, 0, 0, 0, rfl, fun _ => rfl, fun h => by simp at h, by simp, fun j a ha => by simp at ha⟩

theorem SrcR.lone {w : World} {E : Nat} {a : α} {t : TypeId} (h : w.heap[E]? = some (.cells (cs a).toArray t (0, 0))) : SrcR cs n (.slice (some ⟨E, 0, Option.none⟩) 1 1) [a] w := by
  refine ⟨_, E, 0, 1, rfl, (fun h => by cases h), fun _ => rfl, by simp, fun j b hb => ?_⟩
  cases j with
  | zero =>
    have : a = b := by simpa using hb
    subst this
    simpa using whole_range h
  | succ j => simp at hb

/-- v has l, in a block that is younger than the world w0. -/
structure OwnR (cs : α → List Value) (n : Nat) (ty : TypeId) (w0 : World) (v : Value) (l : List α) (w : World) : Prop where
  kept : Kept (fun _ => False) w0 w
  own : w.ownsRow w0.heap.size ty n v l.length (l.flatMap cs)

theorem OwnR.nil (ty : TypeId) (w : World) : OwnR cs n ty w (.slice none 0 0) [] w := ⟨Kept.refl _ _, World.ownsRow_nil _ _ _ _⟩

theorem OwnR.still {ty : TypeId} {w0 w w' : World} {v : Value} {l : List α} (h : OwnR cs n ty w0 v l w) (hk : Kept (fun _ => False) w w') : OwnR cs n ty w0 v l w' :=
  ⟨h.kept.trans hk (fun _ _ e => e), own_kept h.own hk (fun _ _ x => x)⟩

theorem OwnR.src {ty : TypeId} {w0 w : World} {v : Value} {l : List α} (hn : ∀ a, (cs a).length = n) (h : OwnR cs n ty w0 v l w) : SrcR cs n v l w := by
  have hl : (l.flatMap cs).length = l.length * n := flat_len cs n hn l
  rcases h.own.2 with ⟨rfl, h0⟩ | ⟨g, cap, cur, rfl, hb, hg, hnc, hcm, hcs, htake⟩
  · obtain rfl : l = [] := List.eq_nil_of_length_eq_zero h0
    exact SrcR.none w
  · refine ⟨_, g, 0, cap, rfl, (fun h => by cases h), fun _ => rfl, hnc, fun j a ha r v hv => ?_⟩
    have hr : r < n := by have := (List.getElem?_eq_some_iff.1 hv).1; rw [hn] at this; exact this
    have hf : (l.flatMap cs)[j * n + r]? = some v := by rw [flat_get cs n hn l j r hr, ha]; exact hv
    have := h.own.cells (g := g) rfl _ _ hf
    rw [Addr.add_lit] at this
    rw [show 0 + j * n + r = 0 + (j * n + r) by omega]
    exact this

theorem OwnR.form {ty : TypeId} {w0 w : World} {v : Value} {l : List α} (h : OwnR cs n ty w0 v l w) : (v = .slice none 0 0 ∧ l = []) ∨ ∃ g c, v = .slice (some ⟨g, 0, none⟩) l.length c ∧ l.length ≤ c := by
  rcases h.own.2 with ⟨rfl, h0⟩ | ⟨g, cap, cur, rfl, hb, hg, hnc, rest⟩
  · exact .inl ⟨rfl, List.eq_nil_of_length_eq_zero h0⟩
  · exact .inr ⟨g, cap, rfl, hnc⟩
end

abbrev Ws := List (K2 × V)
abbrev SrcW := SrcR (α := K2 × V) wc 19
abbrev OwnW := OwnR (α := K2 × V) wc 19 66

theorem info_write : ∃ z, (Try.prog.info? 66).map (fun i => (i.zero, i.size, i.bytes)) = some (some z, 19, 160) := ⟨wtv ((0, 0), zeroV), by kernel_rfl⟩

theorem run_appw (ty : TypeId) (w0 : World) (v : Value) (xs : Ws) (w : World) (h : OwnW w0 v xs w) (x : Value) (news : Ws) (hx : SrcW x news w) (hlen : xs.length + news.length ≤ 1000000) :
    ∃ v' w', (Builtin.append_ #[39, 39] ty #[v, x]).run Try.prog w = .ok v' w' ∧ OwnW w0 v' (xs ++ news) w' ∧ w.grownBy w' v.ownBlock := by
  have hi0 : (Try.prog.info? 66).map (fun i => (i.zero, i.size, i.bytes)) = some (some (wtv ((0, 0), zeroV)), 19, 160) := by kernel_rfl
  obtain ⟨i0, hi, hz0, hz1, hz2⟩ := info_parts hi0
  obtain ⟨ao, b, o, c, rfl, hnc0, hao, -, hc⟩ := hx
  have some_case : ∀ a : Addr, (0 < news.length → a = ⟨b, o, none⟩) → ∃ v' w', (Builtin.append_ #[39, 39] ty #[v, .slice (some a) news.length c]).run Try.prog w = .ok v' w' ∧ OwnW w0 v' (xs ++ news) w' ∧ w.grownBy w' v.ownBlock := by
    intro a ha
    obtain ⟨v', w', hr, h2, h3, _, _⟩ := run_append_own_at (P := Try.prog) w w0.heap.size 39 ty 66 i0 (wtv ((0, 0), zeroV)) 19 160 Try.underlying39 hi hz0 hz1 hz2 rfl (by decide) v xs.length (xs.flatMap wc) h.own a news.length c (news.flatMap wc) (flat_len wc 19 wc_length news)
      (fun j u hu => by
        have hj : j < news.length * 19 := by have := (List.getElem?_eq_some_iff.1 hu).1; rw [flat_len wc 19 wc_length] at this; exact this
        obtain rfl := ha (by omega)
        have e : j = j / 19 * 19 + j % 19 := by omega
        rw [e, flat_get wc 19 wc_length news (j / 19) (j % 19) (by omega)] at hu
        cases hn : news[j / 19]? with
        | none => rw [hn] at hu; cases hu
        | some t =>
          rw [hn] at hu
          have := hc _ _ hn _ _ hu
          rw [Addr.add_lit]
          rw [show o + j = o + j / 19 * 19 + j % 19 by omega]
          exact this)
      (fun u hu => by obtain ⟨t, _, ht⟩ := List.mem_flatMap.1 hu; exact wc_one t u ht) (by unfold maxLen; omega) (by omega) h.kept.size
    refine ⟨v', w', hr, ⟨Kept.trans h.kept (Kept.grown (X := fun k => w0.heap.size ≤ k) (Kept.refl _ w) h3 (fun k e _ => (h.own.lt k e).1)) (fun k hk e => by omega), ?_⟩, h3⟩
    rw [List.flatMap_append, List.length_append]
    exact h2
  cases ao with
  | some a => exact some_case a (fun h0 => by simpa using hao h0)
  | none =>
    have h0 : news.length = 0 := by
      rcases Nat.eq_zero_or_pos news.length with h0 | h0
      · exact h0
      · have := hao h0; cases this
    obtain rfl : news = [] := List.eq_nil_of_length_eq_zero h0
    obtain rfl := hnc0 rfl
    refine ⟨v, w, ?_, by simpa using h, ⟨rfl, rfl, rfl, Nat.le_refl _, fun _ _ _ => rfl⟩⟩
    rcases h.own.2 with ⟨rfl, h0⟩ | ⟨g, cap, cur, rfl, hb, hg, hnc, hcm, hcs, htake⟩
    · simp [Builtin.append_, run_underlying Try.underlying39, sizeOf, typeInfo, hi, Builtin.lenOf, Builtin.firstCells]
    · simp [Builtin.append_, run_underlying Try.underlying39, sizeOf, typeInfo, hi, Builtin.lenOf, Builtin.firstCells, hnc, storeCells]

/-- append, at the operation. -/
theorem wp_appw {o : Oper} {a : Act} {w : World} {K : Act → World → Prop} {Q : Exit → Act → World → Prop}
    (s x : Operand) (hop : o.op = Op.call { callee := Callee.builtin Builtin.append, args := #[s, x], argTypes := #[39, 39] })
    (w0 : World) (xs news : Ws) (h : OwnW w0 (a.eval s) xs w) (hx : SrcW (a.eval x) news w) (hlen : xs.length + news.length ≤ 1000000)
    (hK : ∀ v' w', OwnW w0 v' (xs ++ news) w' → w.grownBy w' (a.eval s).ownBlock → K (a.put o.dst v') w') : o.wp Try.prog a w K Q := by
  obtain ⟨v', w', hr, h2, h3⟩ := run_appw o.type w0 _ xs w h _ news hx hlen
  unfold Oper.wp execOp
  simp only [hop, resolve, invoke, builtin, Sem.run_bind, Sem.run_pure, Result.andThen_ok, List.map_toArray, List.map_cons, List.map_nil, hr]
  exact hK v' w' h2 h3

theorem list_appw {ops : Array Oper} {rest : List Oper} {o : Oper} {a : Act} {w : World} {Q : Exit → Act → World → Prop}
    (hg : o.guard = none) (s x : Operand) (hop : o.op = Op.call { callee := Callee.builtin Builtin.append, args := #[s, x], argTypes := #[39, 39] })
    (w0 : World) (xs news : Ws) (h : OwnW w0 (a.eval s) xs w) (hx : SrcW (a.eval x) news w) (hlen : xs.length + news.length ≤ 1000000)
    (hK : ∀ v' w', OwnW w0 v' (xs ++ news) w' → w.grownBy w' (a.eval s).ownBlock → wpList Try.prog ops Q rest (a.put o.dst v') w') : wpList Try.prog ops Q (o :: rest) a w :=
  wpList_plain hg fun _ hK' => wp_appw s x hop w0 xs news h hx hlen fun v' w' h2 h3 => hK' _ _ (hK v' w' h2 h3)
end Go.Proofs.Ytkpcillgoeidaaa
