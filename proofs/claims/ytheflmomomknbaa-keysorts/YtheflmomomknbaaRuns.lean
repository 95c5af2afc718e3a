/- The chapter's runs; no conditions. -/
import Derived.Test.YtheflmomomknbaaMarks
import Derived.Deep.CutBlock
namespace Go.Proofs.Ytheflmomomknbaa
open Go.RowKit

theorem Kept.thru {a b c : World} (h : Kept (fun _ => False) a b) (g : Kept (fun _ => False) b c) : Kept (fun _ => False) a c := h.trans g (fun _ _ e => e)

set_option maxRecDepth 10000 in
set_option maxHeartbeats 1600000 in
theorem runs_w (w : World) : Calls Try.prog 3 #[] w fun e w' => e = .returned (.bool true) ∧ Kept (fun _ => False) w w' := by
  have A := keyat2 3 (by omega) w
  rw [show (((3 : Nat) : Int)) = 3 from rfl, show keyAt 3 = (4, 0) from rfl] at A
  simp only at A
  go_enter Try.func3, Try.ntmps3
  go_wp2_with fail
  refine A.mono ?_
  rintro e w1 ⟨rfl, hk1⟩
  clear A
  obtain ⟨B, hB⟩ : ∃ B : Nat, w1.heap.size = B := ⟨_, rfl⟩
  go_wp2_with fail
  obtain ⟨wA, hA⟩ : ∃ wA, ((w1.alloc (.cells #[.int .i64 4, .int .i64 0] 23)).alloc (.cells #[.int .i64 4, .int .i64 1] 23)).alloc (.cells #[.int .i64 1, .int .i64 0] 23) = wA := ⟨_, rfl⟩
  have b0 : wA.heap[B]? = some (.cells #[.int .i64 4, .int .i64 0] 23 (0, 0)) := by subst hA; exact alloc_off (alloc_off (alloc_at' _ hB))
  have b1 : wA.heap[B + 1]? = some (.cells #[.int .i64 4, .int .i64 1] 23 (0, 0)) := by subst hA; exact alloc_off (alloc_at' _ (by simp [hB]))
  have b2 : wA.heap[B + 2]? = some (.cells #[.int .i64 1, .int .i64 0] 23 (0, 0)) := by subst hA; exact alloc_at' _ (by simp [hB])
  have HA : Hid (Kept (fun _ => False) w wA) := by subst hA; exact ((hk1.alloc _).alloc _).alloc _
  have K0 : Kept (fun _ => False) wA wA.drew := (Kept.refl _ _).drew
  have KS : ∀ w', Kept (fun _ => False) wA w' → (w'.cell? ⟨B, 0, none⟩ = some (.int .i64 4) ∧ w'.cell? ⟨B, 1, none⟩ = some (.int .i64 0) ∧ w'.cell? ⟨B + 1, 0, none⟩ = some (.int .i64 4) ∧ w'.cell? ⟨B + 1, 1, none⟩ = some (.int .i64 1) ∧ w'.cell? ⟨B + 2, 0, none⟩ = some (.int .i64 1) ∧ w'.cell? ⟨B + 2, 1, none⟩ = some (.int .i64 0)) :=
    fun w' hk => ⟨hk.cell (cell_at b0 rfl) (fun x => x), hk.cell (cell_at b0 rfl) (fun x => x), hk.cell (cell_at b1 rfl) (fun x => x), hk.cell (cell_at b1 rfl) (fun x => x), hk.cell (cell_at b2 rfl) (fun x => x), hk.cell (cell_at b2 rfl) (fun x => x)⟩
  have hL : sortOf [(4, 1), (1, 0), (4, 1), (4, 99)] = [(1, 0), (4, 1)] := by decide +kernel
  have p1 : plc (4, 2) = 5 := rfl
  have p2 : plc (4, 8) = -1 := rfl
  clear b0 b1 b2
  rw [hA]
  clear hA hB
  go_region_held3 (fun w' => w'.cell? ⟨B, 0, none⟩ = some (.int .i64 4) ∧ w'.cell? ⟨B, 1, none⟩ = some (.int .i64 0) ∧ w'.cell? ⟨B + 1, 0, none⟩ = some (.int .i64 4) ∧ w'.cell? ⟨B + 1, 1, none⟩ = some (.int .i64 1) ∧ w'.cell? ⟨B + 2, 0, none⟩ = some (.int .i64 1) ∧ w'.cell? ⟨B + 2, 1, none⟩ = some (.int .i64 0))
    (first | exact KS _ (by assumption) | exact KS _ (Kept.alloc (by assumption) _) | exact KS _ (Kept.alloc (Kept.alloc (by assumption) _) _))
    (first
      | (go_at_call 9; refine (all_w _).mono ?_; rintro e w' ⟨rfl, rfl⟩)
      | (go_at_call 10; refine (place2 _ _ _).mono ?_; rintro e w' ⟨rfl, hk⟩; have hk' := Kept.thru (a := wA) (by assumption) hk)
      | (go_at_call 12; refine (sort_w _ [(4, 1), (1, 0), (4, 1), (4, 99)] (by simp) _ ?hs).mono ?_
         (case hs => first | exact SrcK.row (l := [(4, 1), (1, 0), (4, 1), (4, 99)]) (l' := []) (alloc_at _ _) rfl 4 | exact SrcK.row (l := [(4, 1), (1, 0), (4, 1), (4, 99)]) (l' := []) (alloc_off (alloc_at _ _)) rfl 4 | exact SrcK.row (l := [(4, 1), (1, 0), (4, 1), (4, 99)]) (l' := []) (alloc_at1 _ _ _) rfl 4)
         rintro e w' ⟨v, rfl, hO⟩
         rw [hL] at hO
         have hS : SrcK v [(1, 0), (4, 1)] w' := hO.src
         have hk' := Kept.thru (a := wA) (by first | exact Kept.alloc (by assumption) _ | exact Kept.alloc (Kept.alloc (by assumption) _) _) hO.kept)
      | (go_at_call 11; refine (same_w _ _ [(1, 0), (4, 1)] (by simp) _ ?h1 ?h2).mono ?_
         (case h1 => first | exact hS | exact SrcK.kept hS ((Kept.refl _ _).alloc _))
         (case h2 => first | exact SrcK.row (l := [(1, 0), (4, 1)]) (l' := []) (alloc_at _ _) rfl 2 | exact SrcK.kept (SrcK.row (l := [(1, 0), (4, 1)]) (l' := []) (alloc_at1 _ _ _) rfl 2) hO.kept | exact SrcK.kept (SrcK.row (l := [(1, 0), (4, 1)]) (l' := []) (alloc_off (alloc_at _ _)) rfl 2) hO.kept)
         rintro e w' ⟨rfl, hk⟩
         have hk' := Kept.thru (a := wA) (by first | assumption | exact Kept.alloc (by assumption) _) hk))
  all_goals
    go_wp2
    go_ret
    exact ⟨rfl, HA.out.thru (by assumption)⟩
end Go.Proofs.Ytheflmomomknbaa
