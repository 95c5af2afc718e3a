/- A stop through as many calls as lie between, no further than the nearest guard; no conditions. -/
import Derived.Test.YtimjhjlgnoiimaaRunsW
import Derived.Test.YtimjhjlgnoiimaaWithin
namespace Go.Proofs.Ytimjhjlgnoiimaa
open Go.RowKit

theorem down_w (why at_ : Int) (p q r : Addr) (w : World) (hp : w.cell? p = some (.int .i64 why)) (hq : w.cell? q = some (.int .i64 at_))
    (hr : w.cell? r = some (.func (.func 29) #[] #[.pointer (some p), .pointer (some q), .pointer (some r)])) :
    ∀ k : Nat, k ≤ 1000 → Calls Try.prog 29 #[.int .i64 k, .pointer (some p), .pointer (some q), .pointer (some r)] w fun e w' => (Out.halts why at_).ends e ∧ w' = w := by
  intro k
  induction k with
  | zero =>
    intro _
    go_enter Try.func29, Try.ntmps29
    go_wp2_with fail
    refine (stop_w why at_ w).mono ?_
    rintro e w1 ⟨he, rfl⟩
    rcases ends_cases he with ⟨h, rfl⟩ | ⟨hst, v, older, hv, rfl, hold⟩
    · cases h
    · exact ⟨rfl, ends_stop hv hold, rfl⟩
  | succ k ih =>
    intro hk
    have IH := ih (by omega)
    clear ih
    have h1 : (((k + 1 : Nat) : Int) == 0) = false := by simp; omega
    go_enter Try.func29, Try.ntmps29
    go_wp2_with fail
    refine IH.mono ?_
    rintro e w1 ⟨he, rfl⟩
    rcases ends_cases he with ⟨h, rfl⟩ | ⟨hst, v, older, hv, rfl, hold⟩
    · cases h
    · exact ⟨rfl, ends_stop hv hold, rfl⟩

/-- The innermost function: it calls the one that goes down. -/
theorem deepest_w (why at_ : Int) (k : Nat) (hk : k ≤ 1000) (p q r s : Addr) (w : World) (hp : w.cell? p = some (.int .i64 why)) (hq : w.cell? q = some (.int .i64 at_))
    (hr : w.cell? r = some (.func (.func 29) #[] #[.pointer (some p), .pointer (some q), .pointer (some r)])) (hs : w.cell? s = some (.int .i64 k)) :
    Calls Try.prog 31 #[.pointer (some r), .pointer (some s)] w fun e w' => (Out.halts why at_).ends e ∧ w' = w := by
  have D := down_w why at_ p q r w hp hq hr k hk
  go_enter Try.func31, Try.ntmps31
  go_wp2_with fail
  refine D.mono ?_
  rintro e w1 ⟨he, rfl⟩
  rcases ends_cases he with ⟨h, rfl⟩ | ⟨hst, v, older, hv, rfl, hold⟩
  · cases h
  · exact ⟨rfl, ends_stop hv hold, rfl⟩

theorem Kept.cell0 {w w' : World} (h : Kept (fun _ => False) w w') {p : Addr} {v : Value} (hc : w.cell? p = some v) : w'.cell? p = some v := h.cell hc (by simp)

/-- The function between the two guards: what the inner one told is laid down. -/
theorem middle_w (why at_ : Int) (k : Nat) (hk : k ≤ 1000) (p q r s : Addr) (i j : Nat) (hij : i ≠ j) (w : World) (hp : w.cell? p = some (.int .i64 why)) (hq : w.cell? q = some (.int .i64 at_))
    (hr : w.cell? r = some (.func (.func 29) #[] #[.pointer (some p), .pointer (some q), .pointer (some r)])) (hs : w.cell? s = some (.int .i64 k))
    (hi : w.heap[i]? = some (.cells #[.int .i64 0, .int .i64 0] 23 (0, 0))) (hj : w.heap[j]? = some (.cells #[.bool false] 4 (0, 0))) :
    Calls Try.prog 30 #[.pointer (some r), .pointer (some s), .pointer (some ⟨i, 0, none⟩), .pointer (some ⟨j, 0, none⟩)] w fun e w' => Out.done.ends e ∧
      (Kept (fun x => x = i ∨ x = j) w w' ∧ w'.heap[i]? = some (.cells #[.int .i64 why, .int .i64 at_] 23 (0, 0)) ∧ w'.heap[j]? = some (.cells #[.bool true] 4 (0, 0))) := by
  have K0 : Kept (fun _ => False) w (inGuard w) := ((Kept.refl _ w).alloc _).alloc _
  have D := deepest_w why at_ k hk p q r s (inGuard w) (K0.cell0 hp) (K0.cell0 hq) (K0.cell0 hr) (K0.cell0 hs)
  have G := guard_fn 31 #[.pointer (some r), .pointer (some s)] (fun _ _ => by kernel_rfl) (.halts why at_) w (D.mono fun _ _ ⟨he, hw⟩ => ⟨he, hw ▸ Kept.refl _ _⟩)
  clear D K0
  have hmf := makeF
  go_enter Try.func30, Try.ntmps30
  go_wp2_with fail
  refine G.mono ?_
  rintro e w1 ⟨rfl, hk1⟩
  have i1 := hk1.at hi (by simp)
  have j1 := hk1.at hj (by simp)
  have c0 := cell_at i1 (i := 0) rfl
  have c1 := cell_at i1 (i := 1) rfl
  have c2 := cell_at j1 (i := 0) rfl
  have f0 := free_at i1 0
  have f1 := free_at i1 1
  have f2 := free_at j1 0
  simp only [Out.told, Out.stopped, stopV]
  clear hi hj hp hq hr hs G
  go_wp2
  go_end0
  refine ⟨rfl, ?_, ?_, ?_⟩
  · refine Kept.setCell (Kept.setCell (Kept.setCell (hk1.mono (fun _ _ h => h.elim)) ?_ _) ?_ _) ?_ _
    · intro _; exact .inl rfl
    · intro _; exact .inl rfl
    · intro _; exact .inr rfl
  · rw [set_off _ hij]
    exact set_at (set_at i1 0 (.int .i64 why)) 1 (.int .i64 at_)
  · refine set_at (cs := #[.bool false]) ?_ 0 (.bool true)
    rw [set_off _ (Ne.symm hij), set_off _ (Ne.symm hij)]
    exact j1

/-- The outer guard: nothing comes to it. -/
theorem outer_w (why at_ : Int) (k n : Nat) (hk : k ≤ 1000) (w : World) (h0 : w.heap[n]? = some (.cells #[.int .i64 why] 3 (0, 0))) (h1 : w.heap[n + 1]? = some (.cells #[.int .i64 at_] 3 (0, 0)))
    (h2 : w.heap[n + 1 + 1]? = some (.cells #[.int .i64 k] 3 (0, 0)))
    (h3 : w.heap[n + 1 + 1 + 1]? = some (.cells #[.func (.func 29) #[] #[.pointer (some ⟨n, 0, none⟩), .pointer (some ⟨n + 1, 0, none⟩), .pointer (some ⟨n + 1 + 1 + 1, 0, none⟩)]] 43 (0, 0)))
    (h4 : w.heap[n + 1 + 1 + 1 + 1]? = some (.cells #[.int .i64 0, .int .i64 0] 23 (0, 0))) (h5 : w.heap[n + 1 + 1 + 1 + 1 + 1]? = some (.cells #[.bool false] 4 (0, 0))) :
    Calls Try.prog 8 #[.func (.func 30) #[] #[.pointer (some ⟨n + 1 + 1 + 1, 0, none⟩), .pointer (some ⟨n + 1 + 1, 0, none⟩), .pointer (some ⟨n + 1 + 1 + 1 + 1, 0, none⟩), .pointer (some ⟨n + 1 + 1 + 1 + 1 + 1, 0, none⟩)]] w
      fun e w' => e = .returned (.tuple #[.agg #[.int .i64 0, .int .i64 0], .bool false]) ∧ Kept (fun x => n ≤ x) w w' ∧ w'.heap[n]? = some (.cells #[.int .i64 why] 3 (0, 0)) ∧ w'.heap[n + 1]? = some (.cells #[.int .i64 at_] 3 (0, 0)) ∧
        w'.heap[n + 1 + 1 + 1 + 1]? = some (.cells #[.int .i64 why, .int .i64 at_] 23 (0, 0)) ∧ w'.heap[n + 1 + 1 + 1 + 1 + 1]? = some (.cells #[.bool true] 4 (0, 0)) := by
  have K0 : Kept (fun _ => False) w (inGuard w) := ((Kept.refl _ w).alloc _).alloc _
  have hn := lt_at h5
  have M := middle_w why at_ k hk ⟨n, 0, none⟩ ⟨n + 1, 0, none⟩ ⟨n + 1 + 1 + 1, 0, none⟩ ⟨n + 1 + 1, 0, none⟩ (n + 1 + 1 + 1 + 1) (n + 1 + 1 + 1 + 1 + 1) (by omega) (inGuard w)
    (K0.cell0 (cell_at h0 (i := 0) rfl)) (K0.cell0 (cell_at h1 (i := 0) rfl)) (K0.cell0 (cell_at h3 (i := 0) rfl)) (K0.cell0 (cell_at h2 (i := 0) rfl)) (K0.at h4 (by simp)) (K0.at h5 (by simp))
  have R := run_w 30 _ (fun _ _ => by kernel_rfl) .done _ _ M
  refine (guard_w _ .done (fun w' => Kept (fun x => n ≤ x ∧ x < w.heap.size) (inGuard w) w' ∧ w'.heap[n]? = some (.cells #[.int .i64 why] 3 (0, 0)) ∧ w'.heap[n + 1]? = some (.cells #[.int .i64 at_] 3 (0, 0)) ∧
      w'.heap[n + 1 + 1 + 1 + 1]? = some (.cells #[.int .i64 why, .int .i64 at_] 23 (0, 0)) ∧ w'.heap[n + 1 + 1 + 1 + 1 + 1]? = some (.cells #[.bool true] 4 (0, 0))) w (R.mono ?_)).mono ?_
  · rintro e w' ⟨he, hk, hi, hj⟩
    refine ⟨he, ⟨hk.mono (by intro x _ hx; omega), hk.at (K0.at h0 (by simp)) (by omega), hk.at (K0.at h1 (by simp)) (by omega), hi, hj⟩, hk.at (inGuard0 w) (by omega), hk.at (inGuard1 w) (by omega)⟩
  · rintro e w' ⟨rfl, w1, ⟨hk, g0, g1, g4, g5⟩, hk'⟩
    refine ⟨rfl, ?_, hk'.at g0 (by omega), hk'.at g1 (by omega), hk'.at g4 (by omega), hk'.at g5 (by omega)⟩
    exact Kept.trans (K0.mono (fun _ _ h => h.elim)) (Kept.trans (hk.mono (Y := fun x => n ≤ x) (by intro x _ hx; omega)) hk' (by intro x _ hx; omega)) (fun x _ hx => hx)

theorem deep_w (why at_ deep : Int) (w : World) :
    Calls Try.prog 6 #[.int .i64 why, .int .i64 at_, .int .i64 deep] w fun e w' => e = .returned (.bool true) ∧ Kept (fun _ => False) w w' := by
  have hmf := makeF
  obtain ⟨k, hk, hk'⟩ : ∃ k : Nat, deep % 21 = k ∧ k ≤ 20 := ⟨(deep % 21).toNat, by omega, by omega⟩
  go_enter Try.func6, Try.ntmps6
  go_wp2_with fail
  refine (within_any deep 0 20 (by decide) (by decide) (by decide) _).mono ?_
  rintro e w1 ⟨rfl, rfl⟩
  simp only [show (0 : Int) + deep % (20 - 0 + 1) = k from by omega]
  go_wp2_with fail
  refine (outer_w why at_ k w.heap.size (by omega) _ ?_ ?_ ?_ ?_ ?_ ?_).mono ?_
  · exact alloc_off (alloc_off (alloc_off (alloc_off (alloc_off (alloc_at _ _)))))
  · exact alloc_off (alloc_off (alloc_off (alloc_off (alloc_at1 _ _ _))))
  · exact alloc_off (alloc_off (alloc_off (alloc_at' _ (by simp))))
  · exact alloc_off (alloc_off (alloc_at' _ (by simp)))
  · exact alloc_off (alloc_at' _ (by simp))
  · exact alloc_at' _ (by simp)
  rintro e w2 ⟨rfl, hk2, g0, g1, g4, g5⟩
  have c0 := cell_at g0 (i := 0) rfl
  have c1 := cell_at g1 (i := 0) rfl
  have c2 := cell_at g4 (i := 0) rfl
  have c3 := cell_at g4 (i := 1) rfl
  have c4 := cell_at g5 (i := 0) rfl
  have l0 := lt_at g0
  have l1 := lt_at g1
  have l4 := lt_at g4
  have l5 := lt_at g5
  have HK : Hid (Kept (fun _ => False) w w2) := Kept.trans ((((((Kept.refl _ w).alloc _).alloc _).alloc _).alloc _).alloc _|>.alloc _) hk2 (fun x hx h => by omega)
  clear hk2 g0 g1 g4 g5
  go_wp2_with fail
  refine (runs_w _).mono ?_
  rintro e w3 ⟨rfl, hk3⟩
  have HK3 : Hid (Kept (fun _ => False) w w3) := Kept.trans (HK.out.alloc _) hk3 (fun x hx h => h)
  clear hk3
  go_wp2
  go_ret
  exact ⟨rfl, HK3.out⟩
end Go.Proofs.Ytimjhjlgnoiimaa
