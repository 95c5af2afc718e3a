
/- Chapter 11's runs; no conditions. -/
import Derived.Test.YtkpcillgoeidaaaSide
namespace Go.Proofs.Ytkpcillgoeidaaa
open Go.RowKit
set_option maxRecDepth 100000
set_option linter.unusedSimpArgs false

def r1 : VwF := allocT f0 g0 1
def r2 : VwF := addT f0 r1 1 [97] 3
def r3 : VwF := addT f0 r2 1 [98] 4
def r4 : VwF := rmT f0 r3 1 [97]
def r5 : VwF := addT f0 r4 1 [99] 5
def r6 : VwF := findT r5 1
def r7 : VwF := findT r6 1
def r8 : VwF := findT r7 1

theorem ra : allocV (allocA f0 g0) = .tuple #[.int .i64 1, .bool true] := by kernel_rfl
theorem rb : addOk f0 r1 1 [97] 3 = true := by decide +kernel
theorem rc : addOk f0 r2 1 [98] 4 = true := by decide +kernel
theorem rd : (foundE (dirE f0 r3 1) [97]).isSome = true := by decide +kernel
theorem re : addOk f0 r4 1 [99] 5 = true := by decide +kernel
theorem rf : foundE (dirE f0 r5 1) [97] = none := by decide +kernel
theorem rg : foundE (dirE f0 r6 1) [98] = some 4 := by decide +kernel
theorem rh : namesE (dirE f0 r7 1) = [[99], [98]] := by decide +kernel
theorem ri : addOk f0 r8 1 [98] 6 = false := by decide +kernel

set_option maxHeartbeats 2000000 in
theorem runs_w (w : World) : Calls Try.prog 3 #[] w fun e w' => e = .returned (.bool true) ∧ Kept (fun _ => False) w w' := by
  go_enter Try.func3, Try.ntmps3
  go_wp2_with fail
  refine (side_new _).mono ?_
  rintro e w1 ⟨T, p, B, q, N, rfl, h1, hT⟩
  have c1 := h1.t
  go_wp2_with fail
  refine (side_alloc h1 1).mono ?_
  rintro e w2 ⟨rfl, h2, -⟩
  rw [ra]
  clear h1 c1
  change SideIn _ _ _ _ _ _ r1 _ at h2
  go_upto_region 5 with fail
  have KS : ∀ w', Kept (fun n => n = N) w2 w' → w'.cell? ⟨T, 1, none⟩ = some (.pointer (some ⟨q, 0, none⟩)) := fun w' hk => hk.cell h2.t h2.tn
  refine wp_region_held_drew (S := fun w' => Kept (fun n => n = N) w2 w') (by kernel_rfl) ((Kept.refl _ _).drew) (fun hHeld => ?_)
  have h2d : SideIn w T p B q N r1 w2.drew := h2.still (Kept.refl _ _).drew
  refine h_take 0 (some 23) (Op.move (Operand.tmp 1)) 22 ?v1 rfl rfl (by kernel_rfl) (by kernel_rfl) (by kernel_rfl) (fun _ _ _ h => h) ?hy1 hHeld ?_
  case hy1 => (intro _ _ _ w hSw; have hcs := KS _ hSw; go_simp; try with_reducible rfl)
  simp only [Act.put, List.setIfInBounds_toArray, List.set_cons_zero, List.set_cons_succ]
  refine h_take 1 (some 24) (Op.nilCheck (Operand.tmp 23)) 0 ?v2 rfl rfl (by kernel_rfl) (by kernel_rfl) (by kernel_rfl) (fun _ _ _ h => h) ?hy2 hHeld ?_
  case hy2 => (intro _ _ _ w hSw; have hcs := KS _ hSw; go_simp; try with_reducible rfl)
  simp only [Act.put, List.setIfInBounds_toArray, List.set_cons_zero, List.set_cons_succ]
  refine h_take 2 (some 25) (Op.fieldAddr 31 (Operand.tmp 24) 1) 0 ?v3 rfl rfl (by kernel_rfl) (by kernel_rfl) (by kernel_rfl) (fun _ _ _ h => h) ?hy3 hHeld ?_
  case hy3 => (intro _ _ _ w hSw; have hcs := KS _ hSw; go_simp; try with_reducible rfl)
  simp only [Act.put, List.setIfInBounds_toArray, List.set_cons_zero, List.set_cons_succ]
  refine h_take 3 (some 26) (Op.load 27 (Operand.tmp 25)) 27 ?v4 rfl rfl (by kernel_rfl) (by kernel_rfl) (by kernel_rfl) (fun _ _ _ h => h) ?hy4 hHeld ?_
  case hy4 => (intro _ _ _ w hSw; have hcs := KS _ hSw; go_simp; try with_reducible rfl)
  simp only [Act.put, List.setIfInBounds_toArray, List.set_cons_zero, List.set_cons_succ]
  refine h_take 4 (some 27) (Op.move (Operand.tmp 2)) 3 ?v5 rfl rfl (by kernel_rfl) (by kernel_rfl) (by kernel_rfl) (fun _ _ _ h => h) ?hy5 hHeld ?_
  case hy5 => (intro _ _ _ w hSw; have hcs := KS _ hSw; go_simp; try with_reducible rfl)
  simp only [Act.put, List.setIfInBounds_toArray, List.set_cons_zero, List.set_cons_succ]
  refine h_take 6 (some 29) (Op.move (Operand.tmp 1)) 22 ?v6 rfl rfl (by kernel_rfl) (by kernel_rfl) (by kernel_rfl) (fun _ _ _ h => h) ?hy6 hHeld ?_
  case hy6 => (intro _ _ _ w hSw; have hcs := KS _ hSw; go_simp; try with_reducible rfl)
  simp only [Act.put, List.setIfInBounds_toArray, List.set_cons_zero, List.set_cons_succ]
  refine h_take 7 (some 30) (Op.nilCheck (Operand.tmp 29)) 0 ?v7 rfl rfl (by kernel_rfl) (by kernel_rfl) (by kernel_rfl) (fun _ _ _ h => h) ?hy7 hHeld ?_
  case hy7 => (intro _ _ _ w hSw; have hcs := KS _ hSw; go_simp; try with_reducible rfl)
  simp only [Act.put, List.setIfInBounds_toArray, List.set_cons_zero, List.set_cons_succ]
  refine h_take 8 (some 31) (Op.fieldAddr 31 (Operand.tmp 30) 1) 0 ?v8 rfl rfl (by kernel_rfl) (by kernel_rfl) (by kernel_rfl) (fun _ _ _ h => h) ?hy8 hHeld ?_
  case hy8 => (intro _ _ _ w hSw; have hcs := KS _ hSw; go_simp; try with_reducible rfl)
  simp only [Act.put, List.setIfInBounds_toArray, List.set_cons_zero, List.set_cons_succ]
  refine h_take 9 (some 32) (Op.load 27 (Operand.tmp 31)) 27 ?v9 rfl rfl (by kernel_rfl) (by kernel_rfl) (by kernel_rfl) (fun _ _ _ h => h) ?hy9 hHeld ?_
  case hy9 => (intro _ _ _ w hSw; have hcs := KS _ hSw; go_simp; try with_reducible rfl)
  simp only [Act.put, List.setIfInBounds_toArray, List.set_cons_zero, List.set_cons_succ]
  refine h_take 10 (some 33) (Op.move (Operand.tmp 2)) 3 ?v10 rfl rfl (by kernel_rfl) (by kernel_rfl) (by kernel_rfl) (fun _ _ _ h => h) ?hy10 hHeld ?_
  case hy10 => (intro _ _ _ w hSw; have hcs := KS _ hSw; go_simp; try with_reducible rfl)
  simp only [Act.put, List.setIfInBounds_toArray, List.set_cons_zero, List.set_cons_succ]
  refine h_take 12 (some 35) (Op.move (Operand.tmp 1)) 22 ?v11 rfl rfl (by kernel_rfl) (by kernel_rfl) (by kernel_rfl) (fun _ _ _ h => h) ?hy11 hHeld ?_
  case hy11 => (intro _ _ _ w hSw; have hcs := KS _ hSw; go_simp; try with_reducible rfl)
  simp only [Act.put, List.setIfInBounds_toArray, List.set_cons_zero, List.set_cons_succ]
  refine h_take 13 (some 36) (Op.nilCheck (Operand.tmp 35)) 0 ?v12 rfl rfl (by kernel_rfl) (by kernel_rfl) (by kernel_rfl) (fun _ _ _ h => h) ?hy12 hHeld ?_
  case hy12 => (intro _ _ _ w hSw; have hcs := KS _ hSw; go_simp; try with_reducible rfl)
  simp only [Act.put, List.setIfInBounds_toArray, List.set_cons_zero, List.set_cons_succ]
  refine h_take 14 (some 37) (Op.fieldAddr 31 (Operand.tmp 36) 1) 0 ?v13 rfl rfl (by kernel_rfl) (by kernel_rfl) (by kernel_rfl) (fun _ _ _ h => h) ?hy13 hHeld ?_
  case hy13 => (intro _ _ _ w hSw; have hcs := KS _ hSw; go_simp; try with_reducible rfl)
  simp only [Act.put, List.setIfInBounds_toArray, List.set_cons_zero, List.set_cons_succ]
  refine h_take 15 (some 38) (Op.load 27 (Operand.tmp 37)) 27 ?v14 rfl rfl (by kernel_rfl) (by kernel_rfl) (by kernel_rfl) (fun _ _ _ h => h) ?hy14 hHeld ?_
  case hy14 => (intro _ _ _ w hSw; have hcs := KS _ hSw; go_simp; try with_reducible rfl)
  simp only [Act.put, List.setIfInBounds_toArray, List.set_cons_zero, List.set_cons_succ]
  refine h_take 16 (some 39) (Op.move (Operand.tmp 2)) 3 ?v15 rfl rfl (by kernel_rfl) (by kernel_rfl) (by kernel_rfl) (fun _ _ _ h => h) ?hy15 hHeld ?_
  case hy15 => (intro _ _ _ w hSw; have hcs := KS _ hSw; go_simp; try with_reducible rfl)
  simp only [Act.put, List.setIfInBounds_toArray, List.set_cons_zero, List.set_cons_succ]
  refine h_take 18 (some 41) (Op.move (Operand.tmp 1)) 22 ?v16 rfl rfl (by kernel_rfl) (by kernel_rfl) (by kernel_rfl) (fun _ _ _ h => h) ?hy16 hHeld ?_
  case hy16 => (intro _ _ _ w hSw; have hcs := KS _ hSw; go_simp; try with_reducible rfl)
  simp only [Act.put, List.setIfInBounds_toArray, List.set_cons_zero, List.set_cons_succ]
  refine h_take 19 (some 42) (Op.nilCheck (Operand.tmp 41)) 0 ?v17 rfl rfl (by kernel_rfl) (by kernel_rfl) (by kernel_rfl) (fun _ _ _ h => h) ?hy17 hHeld ?_
  case hy17 => (intro _ _ _ w hSw; have hcs := KS _ hSw; go_simp; try with_reducible rfl)
  simp only [Act.put, List.setIfInBounds_toArray, List.set_cons_zero, List.set_cons_succ]
  refine h_take 20 (some 43) (Op.fieldAddr 31 (Operand.tmp 42) 1) 0 ?v18 rfl rfl (by kernel_rfl) (by kernel_rfl) (by kernel_rfl) (fun _ _ _ h => h) ?hy18 hHeld ?_
  case hy18 => (intro _ _ _ w hSw; have hcs := KS _ hSw; go_simp; try with_reducible rfl)
  simp only [Act.put, List.setIfInBounds_toArray, List.set_cons_zero, List.set_cons_succ]
  refine h_take 21 (some 44) (Op.load 27 (Operand.tmp 43)) 27 ?v19 rfl rfl (by kernel_rfl) (by kernel_rfl) (by kernel_rfl) (fun _ _ _ h => h) ?hy19 hHeld ?_
  case hy19 => (intro _ _ _ w hSw; have hcs := KS _ hSw; go_simp; try with_reducible rfl)
  simp only [Act.put, List.setIfInBounds_toArray, List.set_cons_zero, List.set_cons_succ]
  refine h_take 22 (some 45) (Op.move (Operand.tmp 2)) 3 ?v20 rfl rfl (by kernel_rfl) (by kernel_rfl) (by kernel_rfl) (fun _ _ _ h => h) ?hy20 hHeld ?_
  case hy20 => (intro _ _ _ w hSw; have hcs := KS _ hSw; go_simp; try with_reducible rfl)
  simp only [Act.put, List.setIfInBounds_toArray, List.set_cons_zero, List.set_cons_succ]
  refine h_step 5 (some 28) (Op.call { callee := Callee.value (Operand.func 10), args := #[Operand.tmp 26, Operand.tmp 27, Operand.const (Value.string { data := #[97] }), Operand.const (Value.int IntKind.i64 3)], argTypes := #[27, 3, 9, 3] }) 4 rfl rfl (by kernel_rfl) (fun _ _ _ K hK => ?_)
  go_simp
  refine (side_dadd h2d 1 ⟨#[97]⟩ (by decide) 3).mono ?_
  rintro e w3 ⟨rfl, h3, k3⟩
  rw [show addOk f0 r1 1 (bl ⟨#[97]⟩) 3 = true from rb]
  replace k3 : Kept (fun n => n = N) w2 w3 := (Kept.refl _ w2).drew.trans k3 (fun _ _ e => e)
  change SideIn _ _ _ _ _ _ r2 _ at h3
  go_wp2_with fail
  refine hK.out _ _ (k3) (fun hHeld => ?_)
  clear hK K
  try simp only [Act.put, List.setIfInBounds_toArray, List.set_cons_zero, List.set_cons_succ]
  refine h_step 11 (some 34) (Op.call { callee := Callee.value (Operand.func 10), args := #[Operand.tmp 32, Operand.tmp 33, Operand.const (Value.string { data := #[98] }), Operand.const (Value.int IntKind.i64 4)], argTypes := #[27, 3, 9, 3] }) 4 rfl rfl (by kernel_rfl) (fun _ _ _ K hK => ?_)
  go_simp
  refine (side_dadd h3 1 ⟨#[98]⟩ (by decide) 4).mono ?_
  rintro e w4 ⟨rfl, h4, k4⟩
  rw [show addOk f0 r2 1 (bl ⟨#[98]⟩) 4 = true from rc]
  replace k4 : Kept (fun n => n = N) w2 w4 := k3.trans k4 (fun _ _ e => e)
  change SideIn _ _ _ _ _ _ r3 _ at h4
  go_wp2_with fail
  refine hK.out _ _ (k4) (fun hHeld => ?_)
  clear hK K
  try simp only [Act.put, List.setIfInBounds_toArray, List.set_cons_zero, List.set_cons_succ]
  refine h_step 17 (some 40) (Op.call { callee := Callee.value (Operand.func 11), args := #[Operand.tmp 38, Operand.tmp 39, Operand.const (Value.string { data := #[97] })], argTypes := #[27, 3, 9] }) 4 rfl rfl (by kernel_rfl) (fun _ _ _ K hK => ?_)
  go_simp
  refine (side_drm h4 1 ⟨#[97]⟩ (by decide)).mono ?_
  rintro e w5 ⟨rfl, h5, k5⟩
  rw [show (foundE (dirE f0 r3 1) (bl ⟨#[97]⟩)).isSome = true from rd]
  replace k5 : Kept (fun n => n = N) w2 w5 := k4.trans k5 (fun _ _ e => e)
  change SideIn _ _ _ _ _ _ r4 _ at h5
  go_wp2_with fail
  refine hK.out _ _ (k5) (fun hHeld => ?_)
  clear hK K
  try simp only [Act.put, List.setIfInBounds_toArray, List.set_cons_zero, List.set_cons_succ]
  refine h_step 23 (some 46) (Op.call { callee := Callee.value (Operand.func 10), args := #[Operand.tmp 44, Operand.tmp 45, Operand.const (Value.string { data := #[99] }), Operand.const (Value.int IntKind.i64 5)], argTypes := #[27, 3, 9, 3] }) 4 rfl rfl (by kernel_rfl) (fun _ _ _ K hK => ?_)
  go_simp
  refine (side_dadd h5 1 ⟨#[99]⟩ (by decide) 5).mono ?_
  rintro e w6 ⟨rfl, h6, k6⟩
  rw [show addOk f0 r4 1 (bl ⟨#[99]⟩) 5 = true from re]
  replace k6 : Kept (fun n => n = N) w2 w6 := k5.trans k6 (fun _ _ e => e)
  change SideIn _ _ _ _ _ _ r5 _ at h6
  go_wp2_with fail
  refine hK.out _ _ (k6) (fun hHeld => ?_)
  clear hK K
  try simp only [Act.put, List.setIfInBounds_toArray, List.set_cons_zero, List.set_cons_succ]
  refine h_take 24 (some 4) (Op.assign (Operand.tmp 28)) 4 ?v21 rfl rfl (by kernel_rfl) (by kernel_rfl) (by kernel_rfl) (fun _ _ _ h => h) ?hy21 hHeld ?_
  case hy21 => (intro _ _ _ w hSw; have hcs := KS _ hSw; go_simp; try with_reducible rfl)
  simp only [Act.put, List.setIfInBounds_toArray, List.set_cons_zero, List.set_cons_succ]
  refine h_take 25 (some 5) (Op.assign (Operand.tmp 34)) 4 ?v22 rfl rfl (by kernel_rfl) (by kernel_rfl) (by kernel_rfl) (fun _ _ _ h => h) ?hy22 hHeld ?_
  case hy22 => (intro _ _ _ w hSw; have hcs := KS _ hSw; go_simp; try with_reducible rfl)
  simp only [Act.put, List.setIfInBounds_toArray, List.set_cons_zero, List.set_cons_succ]
  refine h_take 26 (some 6) (Op.assign (Operand.tmp 40)) 4 ?v23 rfl rfl (by kernel_rfl) (by kernel_rfl) (by kernel_rfl) (fun _ _ _ h => h) ?hy23 hHeld ?_
  case hy23 => (intro _ _ _ w hSw; have hcs := KS _ hSw; go_simp; try with_reducible rfl)
  simp only [Act.put, List.setIfInBounds_toArray, List.set_cons_zero, List.set_cons_succ]
  refine h_take 27 (some 7) (Op.assign (Operand.tmp 46)) 4 ?v24 rfl rfl (by kernel_rfl) (by kernel_rfl) (by kernel_rfl) (fun _ _ _ h => h) ?hy24 hHeld ?_
  case hy24 => (intro _ _ _ w hSw; have hcs := KS _ hSw; go_simp; try with_reducible rfl)
  simp only [Act.put, List.setIfInBounds_toArray, List.set_cons_zero, List.set_cons_succ]
  refine wpAnyH_done (by kernel_rfl) ?_ _
  clear hHeld KS k3 k4 k5 k6 h3 h4 h5 h2 h2d
  have c6 := h6.t
  go_wp2_with fail
  refine (side_dfind h6 1 ⟨#[97]⟩ (by decide)).mono ?_
  rintro e w7 ⟨rfl, h7, -⟩
  rw [show foundV (foundE (dirE f0 r5 1) (bl ⟨#[97]⟩)) = .tuple #[.int .i64 0, .bool false] from by rw [show foundE (dirE f0 r5 1) (bl ⟨#[97]⟩) = none from rf]; rfl]
  change SideIn _ _ _ _ _ _ r6 _ at h7
  have c7 := h7.t
  clear h6 c6
  go_wp2_with fail
  refine (side_dfind h7 1 ⟨#[98]⟩ (by decide)).mono ?_
  rintro e w8 ⟨rfl, h8, -⟩
  rw [show foundV (foundE (dirE f0 r6 1) (bl ⟨#[98]⟩)) = .tuple #[.int .i64 4, .bool true] from by rw [show foundE (dirE f0 r6 1) (bl ⟨#[98]⟩) = some 4 from rg]; rfl]
  change SideIn _ _ _ _ _ _ r7 _ at h8
  have c8 := h8.t
  clear h7 c7
  go_wp2_with fail
  refine (side_dnames h8 1).mono ?_
  rintro e w9 ⟨v, rfl, hv, h9, -⟩
  rw [rh] at hv
  change SideIn _ _ _ _ _ _ r8 _ at h9
  clear h8 c8
  go_wp2_with fail
  have kA : Kept (fun _ => False) w9 (w9.alloc (.cells #[.string ⟨#[99]⟩, .string ⟨#[98]⟩] 9)) := (Kept.refl _ _).alloc _
  refine (Nm.same_w v (.slice (some ⟨w9.heap.size, 0, none⟩) 2 2) [[99], [98]] [[99], [98]] (by decide) (by decide) _ (hv.still kA) (Nm.SrcS.row (l := [[99], [98]]) (alloc_at _ _) rfl 2)).mono ?_
  rintro e wB ⟨rfl, hkB⟩
  have hB := h9.still (kA.thru hkB)
  have cB := hB.t
  clear hv h9 kA hkB
  go_wp2_with fail
  refine (side_dadd hB 1 ⟨#[98]⟩ (by decide) 6).mono ?_
  rintro e wC ⟨rfl, hC, -⟩
  rw [show addOk f0 r8 1 (bl ⟨#[98]⟩) 6 = false from ri]
  have HK : Hid (Kept (fun _ => False) w wC) := hC.kept
  clear hB cB hC
  go_wp2
  go_ret
  exact ⟨rfl, HK.out⟩
end Go.Proofs.Ytkpcillgoeidaaa
