
/- Rows of numbers of a call's own, appended to; two rows that are the same; no conditions but the rows' own. -/
import Derived.Test.YtbhpkjedkccdpaaDoorSmA
import Derived.Deep.RegionLaw
namespace Go.Proofs.YtbhpkjedkccdpaaDoor
open Go.RowKit
set_option maxRecDepth 100000
set_option linter.unusedSimpArgs false

def ints (l : List Int) : List Value := l.map (Value.int .i64)
def zd (l : List Int) (i : Nat) : Int := l.getD i 0
theorem ints_app (a b : List Int) : ints (a ++ b) = ints a ++ ints b := by simp [ints]
theorem ints_len (a : List Int) : (ints a).length = a.length := by simp [ints]
theorem zd_get {l : List Int} {i : Nat} (h : i < l.length) : zd l i = l[i] := by simp [zd, h]
theorem info_int : (Tryd.prog.info? 3).map (fun i => (i.zero, i.size, i.bytes)) = some (some (.int .i64 0), 1, 8) := by kernel_rfl

/-- What x has. -/
def SrcI (x : Value) (xs : List Int) (w : World) : Prop :=
  (∃ b o c, x = .slice (some ⟨b, o, none⟩) xs.length c ∧ b < w.heap.size ∧ ∀ j u, xs[j]? = some u → w.cell? ⟨b, o + j, none⟩ = some (.int .i64 u)) ∨ (x = .slice none 0 0 ∧ xs = [])

theorem SrcI.kept {x : Value} {xs : List Int} {w w' : World} {X : Nat → Prop} (h : SrcI x xs w) (hk : Kept X w w') (hX : ∀ k, x.ownBlock = some k → ¬ X k) : SrcI x xs w' := by
  rcases h with ⟨b, o, c, rfl, hb, hc⟩ | h
  · exact .inl ⟨b, o, c, rfl, Nat.lt_of_lt_of_le hb hk.size, fun j u hu => hk.cell (hc j u hu) (hX b rfl)⟩
  · exact .inr h
theorem SrcI.own {w : World} {base n : Nat} {v : Value} {l : List Int} (h : w.ownsRow base 3 1 v n (ints l)) : SrcI v l w := by
  have hl : l.length = n := by have := h.1; rw [ints_len] at this; omega
  rcases h.2 with ⟨rfl, h0⟩ | ⟨g, cap, cur, rfl, hb, hg, hnc, hcm, hcs, htake⟩
  · exact .inr ⟨rfl, List.eq_nil_of_length_eq_zero (by omega)⟩
  · refine .inl ⟨g, 0, cap, by rw [hl], lt_at hg, fun j u hu => ?_⟩
    have hc := h.cells (g := g) rfl j (.int .i64 u) (by simp [ints, hu])
    rw [Addr.add_lit] at hc
    exact hc
theorem SrcI.cell {b o n c : Nat} {l : List Int} {w : World} (h : SrcI (.slice (some ⟨b, o, none⟩) n c) l w) {j : Nat} (hj : j < l.length) : w.cell? ⟨b, o + j, none⟩ = some (.int .i64 (zd l j)) := by
  rcases h with ⟨b', o', c', e, _, hc⟩ | ⟨e, _⟩
  · cases e; exact hc j _ (by rw [zd_get hj]; simp [hj])
  · cases e
theorem SrcI.form {x : Value} {l : List Int} {w : World} (h : SrcI x l w) : (∃ b o c, x = .slice (some ⟨b, o, none⟩) l.length c) ∨ (x = .slice none 0 0 ∧ l = []) := by
  rcases h with ⟨b, o, c, e, _⟩ | h
  · exact .inl ⟨b, o, c, e⟩
  · exact .inr h
theorem SrcI.row {w : World} {E : Nat} {cs : Array Value} {t : TypeId} {l : List Int} (h : w.heap[E]? = some (.cells cs t (0, 0))) (hc : cs.toList = ints l) (c : Nat) : SrcI (.slice (some ⟨E, 0, none⟩) l.length c) l w := by
  refine .inl ⟨E, 0, c, rfl, lt_at h, fun j u hu => ?_⟩
  rw [Nat.zero_add]
  refine cell_at h ?_
  rw [← Array.getElem?_toList, hc]
  simp [ints, hu]

theorem SrcI.lone {w : World} {E : Nat} {i : Int} (h : w.heap[E]? = some (.cells #[.int .i64 i] 3 (0, 0))) : SrcI (.slice (some ⟨E, 0, none⟩) 1 1) [i] w := by
  have := SrcI.row (l := [i]) h rfl 1
  exact this

/-- v has the numbers xs, in a block that is younger than the world w0; outside X all is as it was there. -/
structure OwnX (X : Nat → Prop) (w0 : World) (v : Value) (xs : List Int) (w : World) : Prop where
  kept : Kept X w0 w
  own : w.ownsRow w0.heap.size 3 1 v xs.length (ints xs)

section
variable {X : Nat → Prop} {w0 w w' : World} {v : Value} {xs : List Int}
theorem OwnX.nil (w : World) : OwnX X w (.slice none 0 0) [] w := ⟨Kept.refl _ _, World.ownsRow_nil _ _ _ _⟩
theorem OwnX.src (h : OwnX X w0 v xs w) : SrcI v xs w := SrcI.own h.own
/-- Old blocks are written, or new ones made. -/
theorem OwnX.still (h : OwnX X w0 v xs w) (hk : Kept X w w') (hX : ∀ k, X k → k < w0.heap.size) : OwnX X w0 v xs w' := by
  refine ⟨h.kept.trans hk (fun _ _ e => e), own_kept h.own hk (fun k e x => ?_)⟩
  have := hX k x
  have := (h.own.lt k e).1
  omega
theorem OwnX.mono {Y : Nat → Prop} (h : OwnX X w0 v xs w) (hY : ∀ k, X k → Y k) : OwnX Y w0 v xs w := ⟨h.kept.mono (fun k _ e => hY k e), h.own⟩
theorem OwnX.young (h : OwnX X w0 v xs w) {k : Nat} (e : v.ownBlock = some k) : w0.heap.size ≤ k ∧ k < w.heap.size := h.own.lt k e
end

theorem own_grown {X : Nat → Prop} {w w1 : World} (hk : Kept X w w1) : OwnX X w (.slice none 0 0) [] w1 := ⟨hk, World.ownsRow_nil _ _ _ _⟩

theorem runI_app (X : Nat → Prop) (ty : TypeId) (w0 : World) (v : Value) (xs : List Int) (w : World) (h : OwnX X w0 v xs w) (x : Value) (news : List Int) (hx : SrcI x news w) (hlen : xs.length + news.length ≤ 1000000) :
    ∃ v' w', (Builtin.append_ #[31, 31] ty #[v, x]).run Tryd.prog w = .ok v' w' ∧ OwnX X w0 v' (xs ++ news) w' ∧ w.grownBy w' v.ownBlock := by
  obtain ⟨i0, hi, hz0, hz1, hz2⟩ := info_parts info_int
  rcases hx with ⟨b, o, c, rfl, hb, hc⟩ | ⟨rfl, rfl⟩
  · obtain ⟨v', w', hr, h2, h3, _, _⟩ := run_append_own_at (P := Tryd.prog) w w0.heap.size 31 ty 3 i0 (.int .i64 0) 1 8 Tryd.underlying31 hi hz0 hz1 hz2 rfl (by decide) v xs.length (ints xs) h.own ⟨b, o, none⟩ news.length c (ints news) (by simp [ints])
      (fun j u hu => by
        rw [Addr.add_lit]
        simp only [ints, List.getElem?_map, Option.map_eq_some_iff] at hu
        obtain ⟨y, hy, rfl⟩ := hu
        exact hc j y hy)
      (fun u hu => by
        simp only [ints, List.mem_map] at hu
        obtain ⟨y, _, rfl⟩ := hu
        rfl) (by unfold maxLen; omega) (by omega) h.kept.size
    refine ⟨v', w', hr, ⟨Kept.trans h.kept (Kept.grown (X := fun k => w0.heap.size ≤ k) (Kept.refl _ w) h3 (fun k e _ => (h.own.lt k e).1)) (fun k hk e => by omega), ?_⟩, h3⟩
    rw [ints_app, List.length_append]
    exact h2
  · refine ⟨v, w, ?_, by simpa using h, ⟨rfl, rfl, rfl, Nat.le_refl _, fun _ _ _ => rfl⟩⟩
    rcases h.own.2 with ⟨rfl, h0⟩ | ⟨g, cap, cur, rfl, hb, hg, hnc, hcm, hcs, htake⟩
    · simp [Builtin.append_, run_underlying Tryd.underlying31, sizeOf, typeInfo, hi, Builtin.lenOf, Builtin.firstCells]
    · simp [Builtin.append_, run_underlying Tryd.underlying31, sizeOf, typeInfo, hi, Builtin.lenOf, Builtin.firstCells, hnc, storeCells]

/-- append, at the operation. -/
theorem wpI_app {o : Oper} {a : Act} {w : World} {K : Act → World → Prop} {Q : Exit → Act → World → Prop}
    (s x : Operand) (hop : o.op = Op.call { callee := Callee.builtin Builtin.append, args := #[s, x], argTypes := #[31, 31] })
    (X : Nat → Prop) (w0 : World) (xs news : List Int) (h : OwnX X w0 (a.eval s) xs w) (hx : SrcI (a.eval x) news w) (hlen : xs.length + news.length ≤ 1000000)
    (hK : ∀ v' w', OwnX X w0 v' (xs ++ news) w' → w.grownBy w' (a.eval s).ownBlock → K (a.put o.dst v') w') : o.wp Tryd.prog a w K Q := by
  obtain ⟨v', w', hr, h2, h3⟩ := runI_app X o.type w0 _ xs w h _ news hx hlen
  unfold Oper.wp execOp
  simp only [hop, resolve, invoke, builtin, Sem.run_bind, Sem.run_pure, Result.andThen_ok, List.map_toArray, List.map_cons, List.map_nil, hr]
  exact hK v' w' h2 h3

/-- append, at the list of a plain region's operations. -/
theorem listI_app {ops : Array Oper} {rest : List Oper} {o : Oper} {a : Act} {w : World} {Q : Exit → Act → World → Prop}
    (hg : o.guard = none) (s x : Operand) (hop : o.op = Op.call { callee := Callee.builtin Builtin.append, args := #[s, x], argTypes := #[31, 31] })
    (X : Nat → Prop) (w0 : World) (xs news : List Int) (h : OwnX X w0 (a.eval s) xs w) (hx : SrcI (a.eval x) news w) (hlen : xs.length + news.length ≤ 1000000)
    (hK : ∀ v' w', OwnX X w0 v' (xs ++ news) w' → w.grownBy w' (a.eval s).ownBlock → wpList Tryd.prog ops Q rest (a.put o.dst v') w') : wpList Tryd.prog ops Q (o :: rest) a w :=
  wpList_plain hg fun _ hK' => wpI_app s x hop X w0 xs news h hx hlen fun v' w' h2 h3 => hK' _ _ (hK v' w' h2 h3)

set_option maxHeartbeats 800000 in
theorem sameI_n (ao bo : Option Addr) (b o c b' o' c' n : Nat) (l : List Int) (hao : 0 < n → ao = some ⟨b, o, none⟩) (hbo : 0 < n → bo = some ⟨b', o', none⟩) (hn : n ≤ 1000000) (w : World) (hc : ∀ j, j < n → w.cell? ⟨b, o + j, none⟩ = some (.int .i64 (zd l j))) (hc' : ∀ j, j < n → w.cell? ⟨b', o' + j, none⟩ = some (.int .i64 (zd l j))) :
    Calls Tryd.prog 14 #[.slice ao n c, .slice bo n c'] w fun e w' => e = .returned (.bool true) ∧ ∃ m, w' = w.drewN m := by
  go_enter Tryd.func14, Tryd.ntmps14
  go_wp2
  go_loopw [5] (fun s wr => ∃ i m : Nat, s = .int .i64 i ∧ i ≤ n ∧ wr = w.drewN m) (fun s _ => n - (intOf s).toNat)
  case atStart => exact ⟨0, 0, rfl, Nat.zero_le _, rfl⟩
  case round =>
    obtain ⟨i, m, rfl, hi, rfl⟩ := hrel
    by_cases hlt : i < n
    · have c1 := hc i hlt
      have c2 := hc' i hlt
      obtain rfl := hao (by omega)
      obtain rfl := hbo (by omega)
      have t1 : (i : Int) < (n : Int) := by omega
      clear hc hc' hao hbo
      generalize zd l i = y at *
      go_wp2_with fail
      go_quiet (fail)
      go_wp2
      go_roundw
      case rel => exact ⟨i + 1, _, by go_num, by omega, rfl⟩
      case measure => simp [intOf]; omega
    · clear hc hc' hao hbo
      go_wp2
      go_ret
      exact ⟨rfl, m, rfl⟩

theorem sameI_w (x y : Value) (l : List Int) (hl : l.length ≤ 1000000) (w : World) (h : SrcI x l w) (h' : SrcI y l w) :
    Calls Tryd.prog 14 #[x, y] w fun e w' => e = .returned (.bool true) ∧ ∃ m, w' = w.drewN m := by
  rcases h.form with ⟨b, o, c, rfl⟩ | ⟨rfl, rfl⟩ <;> rcases h'.form with ⟨b', o', c', rfl⟩ | ⟨rfl, e⟩
  · exact sameI_n _ _ b o c b' o' c' l.length l (fun _ => rfl) (fun _ => rfl) hl w (fun j hj => h.cell hj) (fun j hj => h'.cell hj)
  · subst e; exact sameI_n _ _ b o c 0 0 0 0 [] (fun _ => rfl) (fun h => by omega) hl w (fun j hj => by omega) (fun j hj => by omega)
  · exact sameI_n _ _ 0 0 0 b' o' c' 0 [] (fun h => by omega) (fun _ => rfl) hl w (fun j hj => by omega) (fun j hj => by omega)
  · exact sameI_n _ _ 0 0 0 0 0 0 0 [] (fun h => by omega) (fun h => by omega) hl w (fun j hj => by omega) (fun j hj => by omega)
end Go.Proofs.YtbhpkjedkccdpaaDoor
