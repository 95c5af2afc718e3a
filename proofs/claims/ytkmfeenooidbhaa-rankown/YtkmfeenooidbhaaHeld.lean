/- What each one holds, as it lies in memory; no conditions. -/
import Derived.Test.YtkmfeenooidbhaaWalks
import Derived.Test.YtkmfeenooidbhaaLists
import Derived.Laws.OwnMore
import Derived.Deep.AppendLies
import Derived.OwnWalk
namespace Go.Proofs.Ytkmfeenooidbhaa
open Go.RowKit

theorem info_int : (Try.prog.info? 3).map (fun i => (i.zero, i.size, i.bytes)) = some (some (.int .i64 0), 1, 8) := by kernel_rfl

theorem new_no (n : Int) (hn : n < 1 ∨ 64 < n) (w : World) :
    Calls Try.prog 7 #[.int .i64 n] w fun e w' => (Out.halts 3 n).ends e ∧ w' = w := by
  by_cases h0 : n < 1
  · have hd : decide ((1 : Int) ≤ n) = false := by simp; omega
    go_enter Try.func7, Try.ntmps7
    go_wp2_with fail
    refine (must_not _ _ w).mono ?_
    rintro e w1 ⟨he, rfl⟩
    rcases ends_cases he with ⟨h, rfl⟩ | ⟨hst, v, older, hv, rfl, hold⟩
    · cases h
    · exact ⟨rfl, ends_stop hv hold, rfl⟩
  · have hd : decide ((1 : Int) ≤ n) = true := by simp; omega
    have hd1 : decide (n ≤ (64 : Int)) = false := by simp; omega
    go_enter Try.func7, Try.ntmps7
    go_wp2_with fail
    refine (must_not _ _ w).mono ?_
    rintro e w1 ⟨he, rfl⟩
    rcases ends_cases he with ⟨h, rfl⟩ | ⟨hst, v, older, hv, rfl, hold⟩
    · cases h
    · exact ⟨rfl, ends_stop hv hold, rfl⟩

theorem info_ints : (Try.prog.info? 30).map (fun i => (i.zero, i.size, i.bytes)) = some (some (.slice none 0 0), 1, 24) := by kernel_rfl

theorem make_lists (n : Nat) (hn : n ≤ 64) (w : World) : (Instr.makeSlice 45 (.int .i64 (n : Int)) (.int .i64 (n : Int))).run Try.prog w =
    .ok (.slice (some ⟨w.heap.size, 0, none⟩) n n) (w.alloc (.cells (List.replicate n (Value.slice none 0 0)).toArray 30)) := by
  obtain ⟨i0, hi, hz0, hz1, hz2⟩ := info_parts info_ints
  have hr := run_make (P := Try.prog) w 45 30 i0 _ Try.underlying45 hi hz0 .i64 .i64 n n (by omega) (Int.le_refl _) (by rw [hz2]; omega) (by omega)
  simp only [Int.toNat_natCast] at hr
  rw [hr]
  congr 3
  rw [hz1]
  apply Array.toList_inj.1
  rw [show (Value.slice none 0 0).cells = #[Value.slice none 0 0] from rfl, toList_madeCells_one]
  simp

def ints (l : List Int) : List Value := l.map (Value.int .i64)
def vd (vs : List Value) (i : Nat) : Value := vs.getD i (.slice none 0 0)

theorem ints_app (a b : List Int) : ints (a ++ b) = ints a ++ ints b := by simp [ints]
theorem ints_len (a : List Int) : (ints a).length = a.length := by simp [ints]

theorem vd_set {vs : List Value} {i j : Nat} (h : i < vs.length) (x : Value) : vd (vs.set i x) j = if i = j then x else vd vs j := by
  by_cases e : i = j
  · subst e; rw [if_pos rfl]; simp [vd, h]
  · rw [if_neg e]; simp [vd, e]

/-- What each one holds: the box in block B + 1, the lists in block B, their rows behind; none has more than N. -/
structure HeldIn (B N : Nat) (vs : List Value) (ls : List (List Int)) (w : World) : Prop where
  box : w.heap[B + 1]? = some (.cells #[.slice (some ⟨B, 0, none⟩) vs.length vs.length] 47 (0, 0))
  tab : w.heap[B]? = some (.cells vs.toArray 30 (0, 0))
  len : ls.length = vs.length
  each : ∀ i, i < vs.length → w.ownsRow (B + 2) 3 1 (vd vs i) (ld ls i).length (ints (ld ls i))
  apart : ∀ i j k, i < vs.length → j < vs.length → (vd vs i).ownBlock = some k → (vd vs j).ownBlock = some k → i = j
  good : Good ls
  cap : ∀ i, i < vs.length → (ld ls i).length ≤ N

/-- The blocks that may turn. -/
def Mine (B : Nat) (vs : List Value) (k : Nat) : Prop := k = B ∨ ∃ i, i < vs.length ∧ (vd vs i).ownBlock = some k

theorem own_kept {X : Nat → Prop} {w w' : World} {base : Nat} {e : TypeId} {size : Nat} {v : Value} {n : Nat} {xs : List Value} (h : w.ownsRow base e size v n xs) (hk : Kept X w w') (hx : ∀ k, v.ownBlock = some k → ¬ X k) : w'.ownsRow base e size v n xs := by
  refine ⟨h.1, ?_⟩
  rcases h.2 with hn | ⟨g, cap, cur, rfl, hb, hgg, rest⟩
  · exact .inl hn
  · exact .inr ⟨g, cap, cur, rfl, hb, hk.at hgg (hx g rfl), rest⟩

theorem row_type {w : World} {base : Nat} {e : TypeId} {size : Nat} {v : Value} {n : Nat} {xs : List Value} (h : w.ownsRow base e size v n xs) {k : Nat} (hk : v.ownBlock = some k) : ∃ cur, w.heap[k]? = some (.cells cur e (0, 0)) := by
  rcases h.2 with ⟨rfl, _⟩ | ⟨g, cap, cur, rfl, _, hgb, _⟩
  · simp [Value.ownBlock] at hk
  · have : g = k := by simpa [Value.ownBlock] using hk
    subst this
    exact ⟨cur, hgb⟩

/-- A block of another type is not the row's. -/
theorem row_off {w : World} {base : Nat} {e : TypeId} {size : Nat} {v : Value} {n : Nat} {xs : List Value} (h : w.ownsRow base e size v n xs) {k : Nat} {c : Array Value} {t : TypeId} (hc : w.heap[k]? = some (.cells c t (0, 0))) (ht : t ≠ e) : v.ownBlock ≠ some k := by
  intro hk
  obtain ⟨cur, hr⟩ := row_type h hk
  rw [hc] at hr
  simp at hr
  exact ht hr.2

theorem HeldIn.kept {B N : Nat} {vs : List Value} {ls : List (List Int)} {w w' : World} {X : Nat → Prop} (h : HeldIn B N vs ls w) (hk : Kept X w w') (h1 : ¬ X (B + 1)) (h2 : ∀ k, Mine B vs k → ¬ X k) : HeldIn B N vs ls w' :=
  ⟨hk.at h.box h1, hk.at h.tab (h2 B (.inl rfl)), h.len, fun i hi => own_kept (h.each i hi) hk (fun k e => h2 k (.inr ⟨i, hi, e⟩)), h.apart, h.good, h.cap⟩

theorem HeldIn.still {B N : Nat} {vs : List Value} {ls : List (List Int)} {w w' : World} (h : HeldIn B N vs ls w) (hk : Kept (fun _ => False) w w') : HeldIn B N vs ls w' := h.kept hk (fun x => x) (fun _ _ x => x)

theorem HeldIn.more {B N M : Nat} {vs : List Value} {ls : List (List Int)} {w : World} (h : HeldIn B N vs ls w) (hM : N ≤ M) : HeldIn B M vs ls w :=
  ⟨h.box, h.tab, h.len, h.each, h.apart, h.good, fun i hi => Nat.le_trans (h.cap i hi) hM⟩

/-- A block of another type than the lists' and their rows' is not among them. -/
theorem HeldIn.off {B N : Nat} {vs : List Value} {ls : List (List Int)} {w : World} (h : HeldIn B N vs ls w) {k : Nat} {c : Array Value} {t : TypeId} (hc : w.heap[k]? = some (.cells c t (0, 0))) (h1 : t ≠ 3) (h2 : t ≠ 30) : ¬ Mine B vs k := by
  rintro (rfl | ⟨i, hi, e⟩)
  · rw [h.tab] at hc; simp at hc; exact h2 hc.2.symm
  · exact row_off (h.each i hi) hc h1 e

theorem HeldIn.list {B N : Nat} {vs : List Value} {ls : List (List Int)} {w : World} (h : HeldIn B N vs ls w) {i : Nat} (hi : i < vs.length) : w.cell? ⟨B, i, none⟩ = some (vd vs i) := cell_at h.tab (by simp [vd, hi])

theorem Mine.low {B N : Nat} {vs : List Value} {ls : List (List Int)} {w : World} (h : HeldIn B N vs ls w) {k : Nat} (hk : Mine B vs k) : B ≤ k := by
  rcases hk with rfl | ⟨i, hi, e⟩
  · exact Nat.le_refl _
  · have := ((h.each i hi).lt k e).1; omega

theorem vd_empty (n i : Nat) : vd (List.replicate n (.slice none 0 0)) i = .slice none 0 0 := by
  by_cases h : i < n
  · simp [vd, h]
  · simp [vd, List.getElem?_eq_none (show (List.replicate n (Value.slice none 0 0)).length ≤ i by simp; omega)]

theorem new_ok (n : Nat) (h1 : 1 ≤ n) (hn : n ≤ 64) (w : World) :
    Calls Try.prog 7 #[.int .i64 n] w fun e w' => e = .returned (.pointer (some ⟨w.heap.size + 1, 0, none⟩)) ∧ HeldIn w.heap.size 0 (List.replicate n (.slice none 0 0)) (List.replicate n []) w' ∧ Kept (fun _ => False) w w' ∧ w'.heap.size = w.heap.size + 2 := by
  have hm := make_lists n hn
  have hd : decide ((1 : Int) ≤ (n : Int)) = true := by simp; omega
  have hd1 : ((n : Int) ≤ 64) := by omega
  go_enter Try.func7, Try.ntmps7
  go_wp2_with fail
  refine (must_ok _ _ w).mono ?_
  rintro e w1 ⟨rfl, rfl⟩
  go_wp2
  go_ret
  refine ⟨rfl, ⟨?_, ?_, by simp, fun i hi => ?_, fun i j k hi hj e => ?_, Good.empty n, fun i _ => by simp [ld_empty]⟩, ((Kept.refl _ _).alloc _).alloc _, by simp⟩
  · simpa using alloc_at1 w1 _ _
  · simpa using alloc_off (alloc_at w1 _)
  · rw [vd_empty, ld_empty]; exact World.ownsRow_nil _ _ _ _
  · rw [vd_empty] at e; simp [Value.ownBlock] at e

/-- What x has. -/
def SrcI (x : Value) (xs : List Int) (w : World) : Prop :=
  (∃ b o c, x = .slice (some ⟨b, o, none⟩) xs.length c ∧ b < w.heap.size ∧ ∀ j u, xs[j]? = some u → w.cell? ⟨b, o + j, none⟩ = some (.int .i64 u)) ∨ (x = .slice none 0 0 ∧ xs = [])

theorem SrcI.kept {x : Value} {xs : List Int} {w w' : World} {X : Nat → Prop} (h : SrcI x xs w) (hk : Kept X w w') (hX : ∀ k, x.ownBlock = some k → ¬ X k) : SrcI x xs w' := by
  rcases h with ⟨b, o, c, rfl, hb, hc⟩ | h
  · exact .inl ⟨b, o, c, rfl, Nat.lt_of_lt_of_le hb hk.size, fun j u hu => hk.cell (hc j u hu) (hX b rfl)⟩
  · exact .inr h

theorem own_src {w : World} {base n : Nat} {v : Value} {l : List Int} (h : w.ownsRow base 3 1 v n (ints l)) : SrcI v l w := by
  have hl : l.length = n := by have := h.1; rw [ints_len] at this; omega
  rcases h.2 with ⟨rfl, h0⟩ | ⟨g, cap, cur, rfl, hb, hg, hnc, hcm, hcs, htake⟩
  · exact .inr ⟨rfl, List.eq_nil_of_length_eq_zero (by omega)⟩
  · refine .inl ⟨g, 0, cap, by rw [hl], lt_at hg, fun j u hu => ?_⟩
    have hc := h.cells (g := g) rfl j (.int .i64 u) (by simp [ints, hu])
    rw [Addr.add_lit] at hc
    exact hc

theorem SrcI.cell {b o n c : Nat} {l : List Int} {w : World} (h : SrcI (.slice (some ⟨b, o, none⟩) n c) l w) {j : Nat} (hj : j < l.length) : w.cell? ⟨b, o + j, none⟩ = some (.int .i64 (zd l j)) := by
  rcases h with ⟨b', o', c', e, _, hc⟩ | ⟨e, _⟩
  · cases e; exact hc j _ (by rw [zd_get hj]; simp [hj])
  · cases e

theorem SrcI.form {x : Value} {l : List Int} {w : World} (h : SrcI x l w) : (∃ b o c, x = .slice (some ⟨b, o, none⟩) l.length c) ∨ (x = .slice none 0 0 ∧ l = []) := by
  rcases h with ⟨b, o, c, e, _⟩ | h
  · exact .inl ⟨b, o, c, e⟩
  · exact .inr h
end Go.Proofs.Ytkmfeenooidbhaa
