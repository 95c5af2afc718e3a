
/- Rows of texts in memory: read, appended to, held against each other; no conditions but the rows' own. -/
import Derived.Test.YtkpcillgoeidaaaNWalks
import Derived.Laws.OwnMore
import Derived.Deep.AppendLies
import Derived.Deep.RegionLaw
import Derived.OwnWalk
import Derived.Lib.SmallJoins
namespace Go.Proofs.Ytkpcillgoeidaaa.Nm
set_option maxRecDepth 100000
open Go.RowKit

def strs (xs : List Bs) : List Value := xs.map fun x => .string (bs x)
def sd (xs : List Bs) (i : Nat) : Bs := xs.getD i []

theorem strs_app (a b : List Bs) : strs (a ++ b) = strs a ++ strs b := by simp [strs]
theorem strs_len (a : List Bs) : (strs a).length = a.length := by simp [strs]
theorem sd_get {l : List Bs} {i : Nat} (h : i < l.length) : l[i]? = some (sd l i) := by simp [sd, List.getD, h]

theorem info_string : (Try.prog.info? 9).map (fun i => (i.zero, i.size, i.bytes)) = some (some (.string ⟨#[]⟩), 1, 16) := by kernel_rfl

/-- What x has. -/
def SrcS (x : Value) (xs : List Bs) (w : World) : Prop :=
  (∃ b o c, x = .slice (some ⟨b, o, none⟩) xs.length c ∧ b < w.heap.size ∧ ∀ j u, xs[j]? = some u → w.cell? ⟨b, o + j, none⟩ = some (.string (bs u))) ∨ (x = .slice none 0 0 ∧ xs = [])

theorem SrcS.kept {x : Value} {xs : List Bs} {w w' : World} {X : Nat → Prop} (h : SrcS x xs w) (hk : Kept X w w') (hX : ∀ k, x.ownBlock = some k → ¬ X k) : SrcS x xs w' := by
  rcases h with ⟨b, o, c, rfl, hb, hc⟩ | h
  · exact .inl ⟨b, o, c, rfl, Nat.lt_of_lt_of_le hb hk.size, fun j u hu => hk.cell (hc j u hu) (hX b rfl)⟩
  · exact .inr h

theorem SrcS.still {x : Value} {xs : List Bs} {w w' : World} (h : SrcS x xs w) (hk : Kept (fun _ => False) w w') : SrcS x xs w' := h.kept hk (fun _ _ e => e)

theorem own_src {w : World} {base n : Nat} {v : Value} {l : List Bs} (h : w.ownsRow base 9 1 v n (strs l)) : SrcS v l w := by
  have hl : l.length = n := by have := h.1; rw [strs_len] at this; omega
  rcases h.2 with ⟨rfl, h0⟩ | ⟨g, cap, cur, rfl, hb, hg, hnc, hcm, hcs, htake⟩
  · exact .inr ⟨rfl, List.eq_nil_of_length_eq_zero (by omega)⟩
  · refine .inl ⟨g, 0, cap, by rw [hl], lt_at hg, fun j u hu => ?_⟩
    have hc := h.cells (g := g) rfl j (.string (bs u)) (by simp [strs, hu])
    rw [Addr.add_lit] at hc
    exact hc

theorem SrcS.cell {b o n c : Nat} {l : List Bs} {w : World} (h : SrcS (.slice (some ⟨b, o, none⟩) n c) l w) {j : Nat} (hj : j < l.length) : w.cell? ⟨b, o + j, none⟩ = some (.string (bs (sd l j))) := by
  rcases h with ⟨b', o', c', e, _, hc⟩ | ⟨e, _⟩
  · cases e; exact hc j _ (sd_get hj)
  · cases e

theorem SrcS.form {x : Value} {l : List Bs} {w : World} (h : SrcS x l w) : ∃ ao b o c, x = .slice ao l.length c ∧ (0 < l.length → ao = some ⟨b, o, none⟩) ∧ ∀ j, j < l.length → w.cell? ⟨b, o + j, none⟩ = some (.string (bs (sd l j))) := by
  rcases h with ⟨b, o, c, rfl, _, hc⟩ | ⟨rfl, rfl⟩
  · exact ⟨_, b, o, c, rfl, fun _ => rfl, fun j hj => hc j _ (sd_get hj)⟩
  · exact ⟨none, 0, 0, 0, rfl, fun h => absurd h (by simp), fun j hj => absurd hj (by simp)⟩

theorem SrcS.row {w : World} {E : Nat} {cs : Array Value} {t : TypeId} {l : List Bs} (h : w.heap[E]? = some (.cells cs t (0, 0))) (hc : cs.toList = strs l) (c : Nat) : SrcS (.slice (some ⟨E, 0, none⟩) l.length c) l w := by
  refine .inl ⟨E, 0, c, rfl, lt_at h, fun j u hu => ?_⟩
  refine cell_at h ?_
  rw [← Array.getElem?_toList, hc]
  simp [strs, hu]

/-- v has the texts xs, in a block that is younger than the world w0. -/
structure OwnS (w0 : World) (v : Value) (xs : List Bs) (w : World) : Prop where
  kept : Kept (fun _ => False) w0 w
  own : w.ownsRow w0.heap.size 9 1 v xs.length (strs xs)

theorem OwnS.nil (w : World) : OwnS w (.slice none 0 0) [] w := ⟨Kept.refl _ _, World.ownsRow_nil _ _ _ _⟩
theorem OwnS.none {w0 w : World} (h : Kept (fun _ => False) w0 w) : OwnS w0 (.slice Option.none 0 0) [] w := ⟨h, World.ownsRow_nil _ _ _ _⟩
theorem OwnS.src {w0 w : World} {v : Value} {l : List Bs} (h : OwnS w0 v l w) : SrcS v l w := own_src h.own
theorem OwnS.alloc {w0 w : World} {v : Value} {xs : List Bs} (h : OwnS w0 v xs w) (o : Obj) : OwnS w0 v xs (w.alloc o) := ⟨h.kept.alloc o, h.own.alloc o⟩

theorem own_kept {X : Nat → Prop} {w w' : World} {base : Nat} {e : TypeId} {size : Nat} {v : Value} {n : Nat} {xs : List Value} (h : w.ownsRow base e size v n xs) (hk : Kept X w w') (hx : ∀ k, v.ownBlock = some k → ¬ X k) : w'.ownsRow base e size v n xs := by
  refine ⟨h.1, ?_⟩
  rcases h.2 with hn | ⟨g, cap, cur, rfl, hb, hgg, rest⟩
  · exact .inl hn
  · exact .inr ⟨g, cap, cur, rfl, hb, hk.at hgg (hx g rfl), rest⟩

theorem OwnS.still {w0 w w' : World} {v : Value} {l : List Bs} (h : OwnS w0 v l w) (hk : Kept (fun _ => False) w w') : OwnS w0 v l w' :=
  ⟨h.kept.trans hk (fun _ _ e => e), own_kept h.own hk (fun _ _ x => x)⟩

theorem OwnS.form {w0 w : World} {v : Value} {l : List Bs} (h : OwnS w0 v l w) : ∃ ao c, v = .slice ao l.length c := by
  rcases h.own.2 with ⟨rfl, h0⟩ | ⟨g, cap, cur, rfl, hb, hg, hnc, rest⟩
  · exact ⟨Option.none, 0, by rw [h0]⟩
  · exact ⟨_, cap, rfl⟩

theorem run_app (ty : TypeId) (w0 : World) (v : Value) (xs : List Bs) (w : World) (h : OwnS w0 v xs w) (x : Value) (news : List Bs) (hx : SrcS x news w) (hlen : xs.length + news.length ≤ 1000000) :
    ∃ v' w', (Builtin.append_ #[36, 36] ty #[v, x]).run Try.prog w = .ok v' w' ∧ OwnS w0 v' (xs ++ news) w' ∧ w.grownBy w' v.ownBlock := by
  obtain ⟨i0, hi, hz0, hz1, hz2⟩ := info_parts info_string
  rcases hx with ⟨b, o, c, rfl, hb, hc⟩ | ⟨rfl, rfl⟩
  · obtain ⟨v', w', hr, h2, h3, _, _⟩ := run_append_own_at (P := Try.prog) w w0.heap.size 36 ty 9 i0 (.string ⟨#[]⟩) 1 16 Try.underlying36 hi hz0 hz1 hz2 rfl (by decide) v xs.length (strs xs) h.own ⟨b, o, none⟩ news.length c (strs news) (by simp [strs])
      (fun j u hu => by
        rw [Addr.add_lit]
        simp only [strs, List.getElem?_map, Option.map_eq_some_iff] at hu
        obtain ⟨y, hy, rfl⟩ := hu
        exact hc j y hy)
      (fun u hu => by
        simp only [strs, List.mem_map] at hu
        obtain ⟨y, _, rfl⟩ := hu
        rfl) (by unfold maxLen; omega) (by omega) h.kept.size
    refine ⟨v', w', hr, ⟨Kept.trans h.kept (Kept.grown (X := fun k => w0.heap.size ≤ k) (Kept.refl _ w) h3 (fun k e _ => (h.own.lt k e).1)) (fun k hk e => by omega), ?_⟩, h3⟩
    rw [strs_app, List.length_append]
    exact h2
  · refine ⟨v, w, ?_, by simpa using h, ⟨rfl, rfl, rfl, Nat.le_refl _, fun _ _ _ => rfl⟩⟩
    rcases h.own.2 with ⟨rfl, h0⟩ | ⟨g, cap, cur, rfl, hb, hg, hnc, hcm, hcs, htake⟩
    · simp [Builtin.append_, run_underlying Try.underlying36, sizeOf, typeInfo, hi, Builtin.lenOf, Builtin.firstCells]
    · simp [Builtin.append_, run_underlying Try.underlying36, sizeOf, typeInfo, hi, Builtin.lenOf, Builtin.firstCells, hnc, storeCells]

/-- append, at the operation. -/
theorem wp_app {o : Oper} {a : Act} {w : World} {K : Act → World → Prop} {Q : Exit → Act → World → Prop}
    (s x : Operand) (hop : o.op = Op.call { callee := Callee.builtin Builtin.append, args := #[s, x], argTypes := #[36, 36] })
    (w0 : World) (xs news : List Bs) (h : OwnS w0 (a.eval s) xs w) (hx : SrcS (a.eval x) news w) (hlen : xs.length + news.length ≤ 1000000)
    (hK : ∀ v' w', OwnS w0 v' (xs ++ news) w' → w.grownBy w' (a.eval s).ownBlock → K (a.put o.dst v') w') : o.wp Try.prog a w K Q := by
  obtain ⟨v', w', hr, h2, h3⟩ := run_app o.type w0 _ xs w h _ news hx hlen
  unfold Oper.wp execOp
  simp only [hop, resolve, invoke, builtin, Sem.run_bind, Sem.run_pure, Result.andThen_ok, List.map_toArray, List.map_cons, List.map_nil, hr]
  exact hK v' w' h2 h3

/-- append, at the list of a plain region's operations. -/
theorem list_app {ops : Array Oper} {rest : List Oper} {o : Oper} {a : Act} {w : World} {Q : Exit → Act → World → Prop}
    (hg : o.guard = none) (s x : Operand) (hop : o.op = Op.call { callee := Callee.builtin Builtin.append, args := #[s, x], argTypes := #[36, 36] })
    (w0 : World) (xs news : List Bs) (h : OwnS w0 (a.eval s) xs w) (hx : SrcS (a.eval x) news w) (hlen : xs.length + news.length ≤ 1000000)
    (hK : ∀ v' w', OwnS w0 v' (xs ++ news) w' → w.grownBy w' (a.eval s).ownBlock → wpList Try.prog ops Q rest (a.put o.dst v') w') : wpList Try.prog ops Q (o :: rest) a w :=
  wpList_plain hg fun _ hK' => wp_app s x hop w0 xs news h hx hlen fun v' w' h2 h3 => hK' _ _ (hK v' w' h2 h3)

theorem str_eq (a b : Bs) : ((bs a).toList == (bs b).toList) = decide (a = b) := by
  rw [toList_bl, toList_bl, bl_bs, bl_bs]
  by_cases h : a = b <;> simp [h]

theorem take_next {a b : List Bs} {i : Nat} (ha : i < a.length) (hb : i < b.length) (h : a.take i = b.take i) (he : sd a i = sd b i) : a.take (i + 1) = b.take (i + 1) := by
  rw [List.take_add_one, List.take_add_one, h, sd_get ha, sd_get hb, he]

theorem kept_drewN (w : World) (m : Nat) : Kept (fun _ => False) w (w.drewN m) := ⟨rfl, rfl, rfl, Nat.le_refl _, fun _ _ _ => rfl⟩

/-- Same of the given book, of rows of texts. -/
theorem same_w (x y : Value) (a b : List Bs) (ha : a.length ≤ 1000000) (hb : b.length ≤ 1000000) (w : World) (hx : SrcS x a w) (hy : SrcS y b w) :
    Calls Try.prog 13 #[x, y] w fun e w' => e = .returned (.bool (decide (a = b))) ∧ Kept (fun _ => False) w w' := by
  obtain ⟨ao, A, oa, ca, rfl, hao, hac⟩ := hx.form
  obtain ⟨bo, B, ob, cb, rfl, hbo, hbc⟩ := hy.form
  by_cases hl : a.length = b.length
  · have q : (((a.length : Int)) != (b.length : Int)) = false := by simp [hl]
    have HA : Hid (∀ j, j < a.length → w.cell? ⟨A, oa + j, none⟩ = some (.string (bs (sd a j)))) := hac
    have HB : Hid (∀ j, j < b.length → w.cell? ⟨B, ob + j, none⟩ = some (.string (bs (sd b j)))) := hbc
    have HL : Hid (a.length = b.length) := hl
    clear hac hbc hl hx hy
    go_enter Try.func13, Try.ntmps13
    go_wp2
    go_loopw [5] (fun s wr => ∃ i : Nat, s = .int .i64 i ∧ i ≤ a.length ∧ Hid (a.take i = b.take i) ∧ Hid (Kept (fun _ => False) w wr)) (fun s _ => a.length - (intOf s).toNat)
    case atStart => exact ⟨0, rfl, Nat.zero_le _, rfl, Kept.refl _ _⟩
    case round =>
      obtain ⟨i, rfl, hi, HT, HK⟩ := hrel
      by_cases hlt : i < a.length
      · have hlt2 : i < b.length := HL.out ▸ hlt
        have t1 : (i : Int) < a.length := by omega
        have t2 : (i : Int) < b.length := by omega
        have c1 := HK.out.cell (HA.out i hlt) (fun e => e)
        have c2 := HK.out.cell (HB.out i hlt2) (fun e => e)
        obtain rfl := hao (by omega)
        obtain rfl := hbo (by omega)
        by_cases he : sd a i = sd b i
        · have q2 : ((bs (sd a i)).toList == (bs (sd b i)).toList) = true := by rw [str_eq]; simpa using he
          have HT2 : Hid _ := take_next hlt hlt2 HT.out he
          clear he
          go_wp2_with fail
          go_quiet (fail)
          have HK2 : Hid (Kept (fun _ => False) w (wr.drewN nq)) := HK.out.thru (kept_drewN _ _)
          generalize wr.drewN nq = wd at *
          go_wp2
          go_roundw
          case rel =>
            exact ⟨i + 1, by go_num, by omega, HT2.out, HK2.out⟩
          case measure => simp [intOf]; omega
        · have q2 : ((bs (sd a i)).toList == (bs (sd b i)).toList) = false := by rw [str_eq]; simpa using he
          go_wp2_with fail
          go_quiet (fail)
          go_wp2
          go_ret
          refine ⟨ret_bool ?_, HK.out.thru (kept_drewN _ _)⟩
          symm
          rw [decide_eq_false_iff_not]
          intro e
          exact he (by rw [e])
      · have t1 : ¬ (i : Int) < a.length := by omega
        go_wp2
        go_ret
        refine ⟨ret_bool ?_, HK.out⟩
        symm
        rw [decide_eq_true_eq]
        have := HT.out
        rwa [List.take_of_length_le (by omega), List.take_of_length_le (by have := HL.out; omega)] at this
  · have q : (((a.length : Int)) != (b.length : Int)) = true := by simp; omega
    have hne : decide (a = b) = false := by
      rw [decide_eq_false_iff_not]
      intro e; exact hl (by rw [e])
    rw [hne]
    clear hac hbc hx hy
    go_enter Try.func13, Try.ntmps13
    go_wp2
    go_ret
    exact ⟨rfl, Kept.refl _ _⟩
end Go.Proofs.Ytkpcillgoeidaaa.Nm
