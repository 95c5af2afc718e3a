/- Run of a row of functions; no conditions but what each of them does. -/
import Derived.Test.YtimjhjlgnoiimaaWalks
namespace Go.Proofs.Ytimjhjlgnoiimaa
open Go.RowKit

set_option maxHeartbeats 800000 in
theorem run_list (ao : Option Addr) (n cap : Nat) (fv : Nat → Value) (o : Nat → Out) (J : Nat → World → Prop) (w : World) (hn : n ≤ 140737488351232)
    (b : Nat) (hao : 0 < n → ao = some ⟨b, 0, none⟩)
    (h0 : J 0 (w.alloc (.cells #[.int .i64 0, .int .i64 0] 23)))
    (hst : ∀ i w1 w2, J i w1 → Kept (fun _ => False) w1 w2 → J i w2)
    (hr : ∀ i w1, J i w1 → w1.heap[w.heap.size]? = some (.cells #[.int .i64 0, .int .i64 0] 23 (0, 0)))
    (hb : ∀ i w1, J i w1 → i < n → w1.cell? ⟨b, i, none⟩ = some (fv i))
    (hg : ∀ i, i < n → ∀ w1, J i w1 → Calls Try.prog 8 #[fv i] w1 fun e w' => e = .returned (.tuple #[(o i).told, .bool (o i).stopped]) ∧ J (i + 1) w') :
    Calls Try.prog 13 #[.slice ao n cap] w fun e w' => ∃ m, m ≤ n ∧ (∀ j, j < m → (o j).stopped = false) ∧ (m < n → (o m).stopped = true) ∧
      e = .returned (.tuple #[.int .i64 m, if m < n then (o m).told else stopV 0 0]) ∧ ∃ w1, J (min (m + 1) n) w1 ∧ Kept (fun k => k = w.heap.size) w1 w' := by
  go_enter Try.func13, Try.ntmps13
  go_wp2
  go_loopw [10] (fun i wr => ∃ k : Nat, k ≤ n ∧ i = .int .i64 k ∧ (∀ j, j < k → (o j).stopped = false) ∧ J k wr)
    (fun i _ => n - (intOf i).toNat)
  case atStart => exact ⟨0, Nat.zero_le _, rfl, by simp, h0⟩
  case round =>
    obtain ⟨k, hk, rfl, hdone, hJ⟩ := hrel
    have HD : Hid (∀ j, j < k → (o j).stopped = false) := hdone
    clear hdone
    by_cases hkn : k < n
    · have hcell := hb k wr hJ hkn
      obtain rfl := hao (by omega)
      go_wp2_with fail
      refine (hg k hkn wr hJ).mono ?_
      rintro e w1 ⟨rfl, hJ1⟩
      have h1r := hr _ _ hJ1
      have r0 := cell_at h1r (i := 0) rfl
      have r1 := cell_at h1r (i := 1) rfl
      have q0 := free_at h1r 0
      have q1 := free_at h1r 1
      have hlt := lt_at h1r
      clear hcell hao
      obtain ⟨a, b', hab⟩ := told_agg (o k)
      rw [hab]
      have HA : Hid ((o k).told = _) := hab
      clear hab
      cases hs : (o k).stopped with
      | true =>
        have HS : Hid ((o k).stopped = true) := hs
        clear hs
        go_wp2
        go_region
        all_goals (try go_wp2)
        have g : (((w1.setCell ⟨w.heap.size, 0, none⟩ (.int .i64 a)).setCell ⟨w.heap.size, 1, none⟩ (.int .i64 b')).alloc (.cells #[.int .i64 a, .int .i64 b'] 23)).drew.heap[w.heap.size]? = some (.cells #[.int .i64 a, .int .i64 b'] 23 (0, 0)) :=
          alloc_off (set_at (set_at h1r 0 (.int .i64 a)) 1 (.int .i64 b'))
        refine bodyPost_ret (v := .tuple #[.int .i64 k, .agg #[.int .i64 a, .int .i64 b']]) (by simp [results, Try.results13, go_sem, cell_at g (i := 0) rfl, cell_at g (i := 1) rfl]) rfl ?_
        refine ⟨k, hk, HD, fun _ => HS, by rw [if_pos hkn, show (o k).told = _ from HA], w1, by rw [Nat.min_eq_left (by omega)]; exact hJ1, ?_⟩
        refine Kept.drew (Kept.alloc (Kept.setCell (Kept.setCell (Kept.refl _ _) ?_ _) ?_ _) _) <;> (intro _; rfl)
      | false =>
        have HS : Hid ((o k).stopped = false) := hs
        clear hs
        go_wp2
        go_roundw
        case rel =>
          refine ⟨k + 1, by omega, by go_num, ?_, ?_⟩
          · intro j hj
            by_cases e : j = k
            · subst e; exact HS
            · exact HD j (by omega)
          · exact hst _ _ _ hJ1 ((Kept.refl _ _).alloc _)
        case measure => simp [intOf]; omega
    · have hkn : k = n := by omega
      subst hkn
      have h1r := hr _ _ hJ
      have r0 := cell_at h1r (i := 0) rfl
      have r1 := cell_at h1r (i := 1) rfl
      have q0 := free_at h1r 0
      have q1 := free_at h1r 1
      clear hao
      go_wp2
      have g : ((wr.setCell ⟨w.heap.size, 0, none⟩ (.int .i64 0)).setCell ⟨w.heap.size, 1, none⟩ (.int .i64 0)).heap[w.heap.size]? = some (.cells #[.int .i64 0, .int .i64 0] 23 (0, 0)) :=
        set_at (set_at h1r 0 (.int .i64 0)) 1 (.int .i64 0)
      refine bodyPost_ret (v := .tuple #[.int .i64 k, .agg #[.int .i64 0, .int .i64 0]]) (by simp [results, Try.results13, go_sem, cell_at g (i := 0) rfl, cell_at g (i := 1) rfl]) rfl ?_
      refine ⟨k, hk, HD, fun h => absurd h (by omega), by rw [if_neg (by omega)]; rfl, wr, by rw [Nat.min_eq_right (by omega)]; exact hJ, ?_⟩
      refine Kept.setCell (Kept.setCell (Kept.refl _ _) ?_ _) ?_ _ <;> (intro _; rfl)
end Go.Proofs.Ytimjhjlgnoiimaa
