/- The statement on any key and any place; no conditions but that the place is a number of 64 bits. -/
import Derived.Test.YtheflmomomknbaaRef
namespace Go.Proofs.Ytheflmomomknbaa
open Go.RowKit

theorem le_of {n : Int} (h : (Lit.int .i64 n).wf = true) : n ≤ 9223372036854775807 := by
  have e1 : IntKind.min .i64 = -9223372036854775808 := by decide +kernel
  have e2 : IntKind.max .i64 = 9223372036854775807 := by decide +kernel
  simp only [Lit.wf, decide_eq_true_eq, Bool.and_eq_true, e1, e2] at h
  exact h.2

set_option maxRecDepth 10000 in
set_option maxHeartbeats 1600000 in
theorem tells_w (x y p : Int) (hp : p ≤ 9223372036854775807) (w : World) : Calls Try.prog 4 #[.agg #[.int .i64 x, .int .i64 y], .int .i64 p] w fun e w' => e = .returned (.bool true) ∧ Kept (fun _ => False) w w' := by
  obtain ⟨B, hB⟩ : ∃ B : Nat, w.heap.size = B := ⟨_, rfl⟩
  obtain ⟨wB, hW⟩ : ∃ wB, w.alloc (.cells #[.int .i64 x, .int .i64 y] 23) = wB := ⟨_, rfl⟩
  have A := keyat_w p hp wB
  have R := refat_w p
  unfold kv at A
  generalize (keyAt p).1 = ka at A R
  generalize (keyAt p).2 = kb at A R
  generalize isAt p = kc at A R
  have b0 : wB.heap[B]? = some (.cells #[.int .i64 x, .int .i64 y] 23 (0, 0)) := by subst hW; exact alloc_at' _ hB
  have HB : Hid (Kept (fun _ => False) w wB) := by subst hW; exact (Kept.refl _ _).alloc _
  have HW : Hid (w.alloc (.cells #[.int .i64 x, .int .i64 y] 23) = wB) := hW
  clear hW
  go_enter Try.func4, Try.ntmps4
  go_wp2_with fail
  rw [HW.out]
  refine A.mono ?_
  rintro e w1 ⟨rfl, hk1⟩
  clear A HW
  obtain ⟨C, hC⟩ : ∃ C : Nat, w1.heap.size = C := ⟨_, rfl⟩
  have b1 := hk1.at b0 (fun x => x)
  go_wp2_with fail
  refine (R _).mono ?_
  rintro e w2 ⟨rfl, hk2⟩
  clear R
  obtain ⟨D, hD⟩ : ∃ D : Nat, w2.heap.size = D := ⟨_, rfl⟩
  go_wp2_with fail
  have d0 := alloc_off (o := .cells #[.int .i64 ka, .int .i64 kb] 23) (hk2.at (alloc_off (o := .cells #[.int .i64 ka, .int .i64 kb] 23) b1) (fun x => x))
  have d1 := alloc_off (o := .cells #[.int .i64 ka, .int .i64 kb] 23) (hk2.at (alloc_at' (.cells #[.int .i64 ka, .int .i64 kb] 23) hC) (fun x => x))
  have d2 := alloc_at' (.cells #[.int .i64 ka, .int .i64 kb] 23) hD
  have HA : Hid (Kept (fun _ => False) w _) := ((HB.out.thru (hk1.alloc (.cells #[.int .i64 ka, .int .i64 kb] 23))).thru (hk2.alloc (.cells #[.int .i64 ka, .int .i64 kb] 23)))
  clear HB hk1 hk2 b0 b1 hB
  generalize w2.alloc (.cells #[.int .i64 ka, .int .i64 kb] 23) = wA at *
  have K0 : Kept (fun _ => False) wA wA.drew := (Kept.refl _ _).drew
  have KS : ∀ w', Kept (fun _ => False) wA w' → (w'.cell? ⟨B, 0, none⟩ = some (.int .i64 x) ∧ w'.cell? ⟨B, 1, none⟩ = some (.int .i64 y) ∧ w'.cell? ⟨C, 0, none⟩ = some (.int .i64 ka) ∧ w'.cell? ⟨C, 1, none⟩ = some (.int .i64 kb) ∧ w'.cell? ⟨D, 0, none⟩ = some (.int .i64 ka) ∧ w'.cell? ⟨D, 1, none⟩ = some (.int .i64 kb)) :=
    fun w' hk => ⟨hk.cell (cell_at d0 rfl) (fun x => x), hk.cell (cell_at d0 rfl) (fun x => x), hk.cell (cell_at d1 rfl) (fun x => x), hk.cell (cell_at d1 rfl) (fun x => x), hk.cell (cell_at d2 rfl) (fun x => x), hk.cell (cell_at d2 rfl) (fun x => x)⟩
  clear d0 d1 d2 hC hD
  go_region_held3 (fun w' => w'.cell? ⟨B, 0, none⟩ = some (.int .i64 x) ∧ w'.cell? ⟨B, 1, none⟩ = some (.int .i64 y) ∧ w'.cell? ⟨C, 0, none⟩ = some (.int .i64 ka) ∧ w'.cell? ⟨C, 1, none⟩ = some (.int .i64 kb) ∧ w'.cell? ⟨D, 0, none⟩ = some (.int .i64 ka) ∧ w'.cell? ⟨D, 1, none⟩ = some (.int .i64 kb))
    (exact KS _ (by assumption))
    (first
      | (go_at_call 9; refine (all_w _).mono ?_; rintro e w' ⟨rfl, rfl⟩)
      | (go_at_call 14; refine (refall_w _).mono ?_; rintro e w' ⟨rfl, hk⟩; have hk' := Kept.thru (a := wA) (by assumption) hk)
      | (go_at_call 10; refine (place2 _ _ _).mono ?_; rintro e w' ⟨rfl, hk⟩; have hk' := Kept.thru (a := wA) (by assumption) hk)
      | (go_at_call 15; refine (refplace_w _ _ _).mono ?_; rintro e w' ⟨rfl, hk⟩; have hk' := Kept.thru (a := wA) (by assumption) hk)
      | (go_at_call 3; refine (runs_w _).mono ?_; rintro e w' ⟨rfl, hk⟩; have hk' := Kept.thru (a := wA) (by assumption) hk))
  all_goals
    go_wp2
    go_ret
    exact ⟨rfl, HA.out.thru (by assumption)⟩
end Go.Proofs.Ytheflmomomknbaa
