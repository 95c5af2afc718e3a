/- The chapter's runs; no conditions. -/
import Derived.Test.YtaemchmjajbadaaRef
namespace Go.Proofs.Ytaemchmjajbadaa
open Go.RowKit

theorem split_a : namesF [47, 97, 47, 47, 98, 99, 47] = [[97], [98, 99]] ∧ absF [47, 97, 47, 47, 98, 99, 47] = true ∧ okF [47, 97, 47, 47, 98, 99, 47] = true := by decide +kernel
theorem split_b : okF [] = false := by decide +kernel
theorem split_c : okF [97, 98, 99, 100, 101, 102, 103, 104, 105, 106, 107, 108, 109, 110, 111] = false := by decide +kernel
theorem back_a : nameF (packF [97, 98] 258) = [97, 98] ∧ ptrF (packF [97, 98] 258) = 258 := by decide +kernel

set_option maxHeartbeats 1000000 in
theorem runs_w (w : World) : Calls Try.prog 3 #[] w fun e w' => e = .returned (.bool true) ∧ Kept (fun _ => False) w w' := by
  have S1 := split_w ⟨#[47, 97, 47, 47, 98, 99, 47]⟩ (by decide) w
  have S2 := split_w ⟨#[]⟩ (by decide)
  have S3 := split_w ⟨#[97, 98, 99, 100, 101, 102, 103, 104, 105, 106, 107, 108, 109, 110, 111]⟩ (by decide)
  have P1 := pack_w ⟨#[97, 98]⟩ 258
  have U1 := unpack_w (bs (packF [97, 98] 258))
  rw [show bl (bs (packF [97, 98] 258)) = packF [97, 98] 258 from bl_bs _, back_a.1, back_a.2] at U1
  rw [show bl ⟨#[97, 98]⟩ = [97, 98] from rfl] at P1
  rw [show bl ⟨#[47, 97, 47, 47, 98, 99, 47]⟩ = [47, 97, 47, 47, 98, 99, 47] from rfl, split_a.1, split_a.2.1, split_a.2.2] at S1
  rw [show bl ⟨#[]⟩ = [] from rfl, split_b] at S2
  rw [show bl ⟨#[97, 98, 99, 100, 101, 102, 103, 104, 105, 106, 107, 108, 109, 110, 111]⟩ = [97, 98, 99, 100, 101, 102, 103, 104, 105, 106, 107, 108, 109, 110, 111] from rfl, split_c] at S3
  generalize bs (packF [97, 98] 258) = ent at P1 U1
  rw [show bs [97, 98] = ⟨#[97, 98]⟩ from rfl] at U1
  go_enter Try.func3, Try.ntmps3
  go_wp2_with fail
  refine S1.mono ?_
  rintro e w1 ⟨v1, rfl, O1⟩
  go_wp2_with fail
  refine (S2 _).mono ?_
  rintro e w2 ⟨v2, rfl, O2⟩
  go_wp2_with fail
  refine (S3 _).mono ?_
  rintro e w3 ⟨v3, rfl, O3⟩
  go_wp2_with fail
  refine (P1 _).mono ?_
  rintro e w4 ⟨rfl, k4⟩
  go_wp2_with fail
  refine (U1 _).mono ?_
  rintro e w5 ⟨rfl, k5⟩
  have k : Kept (fun _ => False) w1 w5 := ((O2.kept.thru O3.kept).thru k4).thru k5
  have R1 : Hid (SrcS v1 [[97], [98, 99]] w5) := O1.src.still k
  have HK : Hid (Kept (fun _ => False) w w5) := O1.kept.thru k
  clear O1 O2 O3 k4 k5 k
  go_wp2_with fail
  have R2 : Hid (SrcS (.slice (some ⟨w5.heap.size, 0, none⟩) 2 2) [[97], [98, 99]] (w5.alloc (.cells #[.string ⟨#[97]⟩, .string ⟨#[98, 99]⟩] 9))) := SrcS.row (l := [[97], [98, 99]]) (alloc_at _ _) rfl 2
  refine (same_w _ _ [[97], [98, 99]] [[97], [98, 99]] (by decide) (by decide) _ (R1.out.still ((Kept.refl _ _).alloc _)) R2.out).mono ?_
  rintro e w6 ⟨rfl, k6⟩
  rw [show decide (([[97], [98, 99]] : List Bs) = [[97], [98, 99]]) = true from rfl]
  go_wp2
  go_ret
  exact ⟨rfl, (HK.out.alloc _).thru k6⟩
end Go.Proofs.Ytaemchmjajbadaa
