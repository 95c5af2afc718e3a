/- The guarded functions of the statement on any calls; no conditions. -/
import Derived.Test.YtckbimgoepcoaaaPlay
namespace Go.Proofs.Ytckbimgoepcoaaa
open Go.RowKit

/-- A guard of what turns the blocks X alone. -/
theorem guard_kept (F : Nat) (cap : Array Value) (hF : Enters F) (o : Out) (X : Nat → Prop) (S : World → Prop) (w : World) (hX : ∀ k, X k → k < w.heap.size) (hS : ∀ w1 w2, S w1 → Kept X (inGuard w) w1 → Kept (fun k => k = w.heap.size ∨ k = w.heap.size + 1) w1 w2 → S w2)
    (h : Calls Try.prog F cap (inGuard w) fun e w' => o.ends e ∧ (S w' ∧ Kept X (inGuard w) w')) :
    Calls Try.prog 11 #[.func (.func F) #[] cap] w fun e w' => e = .returned (.tuple #[o.told, .bool o.stopped]) ∧ S w' ∧ Kept X w w' := by
  refine (guard_w _ o (fun w' => S w' ∧ Kept X (inGuard w) w') w ((run_w F cap hF o _ _ h).mono ?_)).mono ?_
  · rintro e w' ⟨he, hs, hk⟩
    exact ⟨he, ⟨hs, hk⟩, hk.at (inGuard0 w) (fun x => by have := hX _ x; omega), hk.at (inGuard1 w) (fun x => by have := hX _ x; omega)⟩
  · rintro e w' ⟨rfl, w1, ⟨hs, hk⟩, hk'⟩
    refine ⟨rfl, hS w1 w' hs hk hk', ?_⟩
    have K0 : Kept X w (inGuard w) := ((Kept.refl _ w).alloc _).alloc _
    exact (K0.trans hk (fun _ _ h => h)).trans hk' (fun k hk e => by omega)

theorem ask_g (qb xb gb tb p b d : Nat) (kind a m : Int) (x : Bool) (hs : List H) (hS : Sane d hs) (hd' : d ≤ 1000000) (w : World) (h : AskIn qb xb gb tb p b kind a m x hs w) :
    Calls Try.prog 11 #[.func (.func 16) #[] #[.pointer (some ⟨qb, 0, none⟩), .pointer (some ⟨xb, 0, none⟩), .pointer (some ⟨gb, 0, none⟩), .pointer (some ⟨tb, 0, none⟩)]] w fun e w' =>
      e = .returned (.tuple #[(play kind a m x hs).o.told, .bool (play kind a m x hs).o.stopped]) ∧
      (HartsIn p b (play kind a m x hs).hs w' ∧ w'.heap[gb]? = some (.cells #[.int .i64 (play kind a m x hs).got] 3 (0, 0)) ∧ w'.heap[tb]? = some (.cells #[.bool (play kind a m x hs).took] 4 (0, 0))) ∧ Kept (fun k => k = b ∨ k = gb ∨ k = tb) w w' := by
  have l1 := lt_at h.harts.mem
  have l2 := lt_at h.harts.row
  have l3 := lt_at h.got
  have l4 := lt_at h.took
  refine guard_kept 16 _ (fun _ _ => by kernel_rfl) _ (fun k => k = b ∨ k = gb ∨ k = tb) _ w (fun k hk => by omega) ?_ ?_
  · rintro w1 w2 ⟨h1, h2, h3⟩ _ hk
    exact ⟨h1.kept hk (by omega) (by omega), hk.at h2 (by omega), hk.at h3 (by omega)⟩
  · exact ask_w qb xb gb tb p b d kind a m x hs hS hd' (inGuard w) (h.kept (inGuard_kept w))

/-- The guarded function that makes the harts: of a number that may be. -/
theorem make_ok (nb xb n : Nat) (h1 : 1 ≤ n) (hn : n ≤ 8) (w : World) (h0 : w.heap[nb]? = some (.cells #[.int .i64 n] 3 (0, 0))) (hx : w.heap[xb]? = some (.cells #[.pointer none] 22 (0, 0))) :
    Calls Try.prog 15 #[.pointer (some ⟨nb, 0, none⟩), .pointer (some ⟨xb, 0, none⟩)] w fun e w' => Out.done.ends e ∧
      ((∃ p b, HartsIn p b (fresh n) w' ∧ w.heap.size ≤ p ∧ w.heap.size ≤ b ∧ w'.heap[xb]? = some (.cells #[.pointer (some ⟨p, 0, none⟩)] 22 (0, 0))) ∧ Kept (fun k => k = xb) w w') := by
  have A := new_ok n h1 hn w
  have n0 := cell_at h0 (i := 0) rfl
  have lm := lt_at hx
  go_enter Try.func15, Try.ntmps15
  go_wp2_with fail
  refine A.mono ?_
  rintro e w1 ⟨rfl, hM, hk, hs⟩
  have hm := hk.at hx (by simp)
  have m0 := cell_at hm (i := 0) rfl
  have mf := free_at hm 0
  clear A n0
  go_wp2
  go_end0
  have kk : Kept (fun k => k = xb) w1 (w1.setCell ⟨xb, 0, none⟩ (.pointer (some ⟨w.heap.size + 1, 0, none⟩))) := kept_set (X := fun k => k = xb) (Kept.refl _ _) rfl _ _
  exact ⟨rfl, ⟨w.heap.size + 1, w.heap.size, hM.kept kk (by omega) (by omega), by omega, by omega, set_at hm 0 _⟩, Kept.trans (hk.mono (fun _ _ e => e.elim)) kk (fun _ _ e => e)⟩

theorem make_no (nb xb : Nat) (n : Int) (hn : n < 1 ∨ 8 < n) (w : World) (h0 : w.heap[nb]? = some (.cells #[.int .i64 n] 3 (0, 0))) :
    Calls Try.prog 15 #[.pointer (some ⟨nb, 0, none⟩), .pointer (some ⟨xb, 0, none⟩)] w fun e w' => (Out.halts 3 n).ends e ∧ w' = w := by
  have A := new_no n hn w
  have n0 := cell_at h0 (i := 0) rfl
  go_enter Try.func15, Try.ntmps15
  go_wp2_with fail
  refine A.mono ?_
  rintro e w1 ⟨he, rfl⟩
  rcases ends_cases he with ⟨h', rfl⟩ | ⟨hst, v', older, hv, rfl, hold⟩
  · cases h'
  · exact ⟨rfl, ends_stop hv hold, rfl⟩

theorem make_g_ok (nb xb n : Nat) (h1 : 1 ≤ n) (hn : n ≤ 8) (w : World) (h0 : w.heap[nb]? = some (.cells #[.int .i64 n] 3 (0, 0))) (hx : w.heap[xb]? = some (.cells #[.pointer none] 22 (0, 0))) :
    Calls Try.prog 11 #[.func (.func 15) #[] #[.pointer (some ⟨nb, 0, none⟩), .pointer (some ⟨xb, 0, none⟩)]] w fun e w' => e = .returned (.tuple #[.agg #[.int .i64 0, .int .i64 0], .bool false]) ∧
      (∃ p b, HartsIn p b (fresh n) w' ∧ w.heap.size + 2 ≤ p ∧ w.heap.size + 2 ≤ b ∧ w'.heap[xb]? = some (.cells #[.pointer (some ⟨p, 0, none⟩)] 22 (0, 0))) ∧ Kept (fun k => k = xb) w w' := by
  have k0 := inGuard_kept w
  have l1 := lt_at hx
  refine guard_kept 15 _ (fun _ _ => by kernel_rfl) .done (fun k => k = xb) (fun w' => ∃ p b, HartsIn p b (fresh n) w' ∧ w.heap.size + 2 ≤ p ∧ w.heap.size + 2 ≤ b ∧ w'.heap[xb]? = some (.cells #[.pointer (some ⟨p, 0, none⟩)] 22 (0, 0))) w (fun k hk => by omega) ?_ ?_
  · rintro w1 w2 ⟨p, b, h1, h2, h3, h4⟩ _ hk
    exact ⟨p, b, h1.kept hk (by omega) (by omega), h2, h3, hk.at h4 (by omega)⟩
  · have M := make_ok nb xb n h1 hn (inGuard w) (k0.at h0 (by simp)) (k0.at hx (by simp))
    rw [inGuard_size] at M
    exact M

theorem make_g_no (nb xb : Nat) (n : Int) (hn : n < 1 ∨ 8 < n) (w : World) (h0 : w.heap[nb]? = some (.cells #[.int .i64 n] 3 (0, 0))) :
    Calls Try.prog 11 #[.func (.func 15) #[] #[.pointer (some ⟨nb, 0, none⟩), .pointer (some ⟨xb, 0, none⟩)]] w fun e w' => e = .returned (.tuple #[.agg #[.int .i64 3, .int .i64 n], .bool true]) ∧ Kept (fun _ => False) w w' :=
  guard_stops 15 _ (fun _ _ => by kernel_rfl) (.halts 3 n) w (make_no nb xb n hn (inGuard w) ((inGuard_kept w).at h0 (by simp)))

end Go.Proofs.Ytckbimgoepcoaaa
