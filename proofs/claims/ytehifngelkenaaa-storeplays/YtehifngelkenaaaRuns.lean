/- The chapter's runs; no conditions. -/
import Derived.Test.YtehifngelkenaaaRedo
namespace Go.Proofs.Ytehifngelkenaaa
open Go.RowKit
set_option linter.unusedSimpArgs false

theorem plc_clock : plc (1, 0) = 0 := rfl

def v1 : VwF := vgetT (fun _ => none) (1, 0)
def v2 : VwF := vputT v1 (1, 0) (numV 6)
def v3 : VwF := vgetT v2 (1, 0)
def f1 : StF := putF (fun _ => none) (1, 0) (numV 5)

theorem run_a : vgetF f1 (fun _ => none) (1, 0) = numV 5 := rfl
theorem run_b : vgetF f1 v2 (1, 0) = numV 6 := rfl
theorem run_s : lookF f1 (1, 0) = numV 5 := rfl
theorem reads1 : readsF v3 = [(1, 0)] := by decide +kernel
theorem redo1 : redoF v3 = [((1, 0), numV 6)] := by
  have : wroteF v3 = [(1, 0)] := by decide +kernel
  unfold redoF
  rw [this]
  rfl

set_option maxRecDepth 10000 in
set_option maxHeartbeats 4000000 in
theorem runs_w (w : World) : Calls Try.prog 3 #[] w fun e w' => e = .returned (.bool true) ∧ Kept (fun _ => False) w w' := by
  go_enter Try.func3, Try.ntmps3
  go_wp2_with fail
  refine (new_w w).mono ?_
  rintro e w1 ⟨p, B, rfl, hS, hk1, hp, hB⟩
  obtain ⟨E, hE⟩ : ∃ E : Nat, w1.heap.size = E := ⟨_, rfl⟩
  go_wp2_with fail
  obtain ⟨wA, hA⟩ : ∃ wA, w1.alloc (.cells #[.int .i64 1, .int .i64 0] 25) = wA := ⟨_, rfl⟩
  have hkA : Kept (fun _ => False) w1 wA := by subst hA; exact (Kept.refl _ _).alloc _
  have hK : wA.heap[E]? = some (.cells #[.int .i64 1, .int .i64 0] 25 (0, 0)) := by subst hA; exact alloc_at' _ hE
  rw [hA]
  clear hA
  have hEB : E ≠ B := by have := hS.map.lt; omega
  have KS : ∀ w', Kept (fun n => n = B) wA w' → (w'.cell? ⟨E, 0, none⟩ = some (.int .i64 1) ∧ w'.cell? ⟨E, 1, none⟩ = some (.int .i64 0)) :=
    fun w' hk' => ⟨hk'.cell (cell_at hK rfl) hEB, hk'.cell (cell_at hK rfl) hEB⟩
  refine wp_region_held_drew (S := fun w' => Kept (fun n => n = B) wA w') (by kernel_rfl) ((Kept.refl _ _).drew) (fun hHeld => ?_)
  refine h_take 0 (some 8) (Op.move (Operand.tmp 1)) 22 ?v1 rfl rfl (by kernel_rfl) (by kernel_rfl) (by kernel_rfl) (fun _ _ _ h => h) ?hy1 hHeld ?_
  case hy1 => (intro _ _ _ w hSw; have hcs := KS _ hSw; go_simp; try with_reducible rfl)
  simp only [Act.put, List.setIfInBounds_toArray, List.set_cons_zero, List.set_cons_succ]
  refine h_take 1 (some 9) (Op.binOp BinOp.eql 22 (Operand.tmp 8) (Operand.const (Value.pointer none)) 22) 4 ?v2 rfl rfl (by kernel_rfl) (by kernel_rfl) (by kernel_rfl) (fun _ _ _ h => h) ?hy2 hHeld ?_
  case hy2 => (intro _ _ _ w hSw; have hcs := KS _ hSw; go_simp; try with_reducible rfl)
  simp only [Act.put, List.setIfInBounds_toArray, List.set_cons_zero, List.set_cons_succ]
  refine h_take 2 (some 10) (Op.move (Operand.tmp 9)) 4 ?v3 rfl rfl (by kernel_rfl) (by kernel_rfl) (by kernel_rfl) (fun _ _ _ h => h) ?hy3 hHeld ?_
  case hy3 => (intro _ _ _ w hSw; have hcs := KS _ hSw; go_simp; try with_reducible rfl)
  simp only [Act.put, List.setIfInBounds_toArray, List.set_cons_zero, List.set_cons_succ]
  refine h_take 3 (some 11) (Op.move (Operand.tmp 1)) 22 ?v4 rfl rfl (by kernel_rfl) (by kernel_rfl) (by kernel_rfl) (fun _ _ _ h => h) ?hy4 hHeld ?_
  case hy4 => (intro _ _ _ w hSw; have hcs := KS _ hSw; go_simp; try with_reducible rfl)
  simp only [Act.put, List.setIfInBounds_toArray, List.set_cons_zero, List.set_cons_succ]
  refine h_take 4 (some 12) (Op.load 25 (Operand.tmp 2)) 25 ?v5 rfl rfl (by kernel_rfl) (by kernel_rfl) (by kernel_rfl) (fun _ _ _ h => h) ?hy5 hHeld ?_
  case hy5 => (intro _ _ _ w hSw; have hcs := KS _ hSw; go_simp; try with_reducible rfl)
  simp only [Act.put, List.setIfInBounds_toArray, List.set_cons_zero, List.set_cons_succ]
  refine h_step 5 (some 13) (Op.call { callee := Callee.value (Operand.func 9), args := #[Operand.const (Value.int IntKind.i64 5)], argTypes := #[3] }) 29 rfl rfl (by kernel_rfl) (fun _ _ _ K hK => ?_)
  go_simp
  refine (num_w 5 _).mono ?_
  rintro e w2 ⟨rfl, hk2⟩
  have k2 : Kept (fun _ => False) wA w2 := (Kept.refl _ wA).drew.thru hk2
  clear hk2
  go_wp2_with fail
  refine hK.out _ _ (k2.mono (fun _ _ e => e.elim)) (fun hHeld => ?_)
  clear hK K
  try simp only [Act.put, List.setIfInBounds_toArray, List.set_cons_zero, List.set_cons_succ]
  refine h_step 6 (some 14) (Op.call { callee := Callee.value (Operand.func 8), args := #[Operand.tmp 11, Operand.tmp 12, Operand.tmp 13], argTypes := #[22, 25, 29] }) 4 rfl rfl (by kernel_rfl) (fun _ _ _ K hK => ?_)
  go_simp
  refine (put_w p B _ 1 0 (numV 5) w2 (hS.still (hkA.thru k2))).mono ?_
  rintro e w3 ⟨rfl, hS3, hk3⟩
  rw [show decide (0 ≤ plc (1, 0)) = true from rfl]
  rw [show putF (fun _ => none) (1, 0) (numV 5) = f1 from rfl] at hS3
  have k3 : Kept (fun n => n = B) wA w3 := (k2.mono (fun _ _ e => e.elim)).trans hk3 (fun _ _ e => e)
  go_wp2_with fail
  refine hK.out _ _ (k3) (fun hHeld => ?_)
  clear hK K
  try simp only [Act.put, List.setIfInBounds_toArray, List.set_cons_zero, List.set_cons_succ]
  refine h_take 7 (some 15) (Op.unOp UnOp.not 4 (Operand.tmp 14)) 4 ?v6 rfl rfl (by kernel_rfl) (by kernel_rfl) (by kernel_rfl) (fun _ _ _ h => h) ?hy6 hHeld ?_
  case hy6 => (intro _ _ _ w hSw; have hcs := KS _ hSw; go_simp; try with_reducible rfl)
  simp only [Act.put, List.setIfInBounds_toArray, List.set_cons_zero, List.set_cons_succ]
  refine h_take 8 (some 16) (Op.pick (Operand.tmp 10) (Operand.const (Value.bool true)) (Operand.tmp 15)) 4 ?v7 rfl rfl (by kernel_rfl) (by kernel_rfl) (by kernel_rfl) (fun _ _ _ h => h) ?hy7 hHeld ?_
  case hy7 => (intro _ _ _ w hSw; have hcs := KS _ hSw; go_simp; try with_reducible rfl)
  simp only [Act.put, List.setIfInBounds_toArray, List.set_cons_zero, List.set_cons_succ]
  refine wpAnyH_done (by kernel_rfl) ?_ _
  have KB3 : Kept (fun _ => False) w w3 := (hk1.thru hkA).trans k3 (fun k h1 h2 => by omega)
  have hK3 := k3.at hK hEB
  clear hHeld KS hk3 k2 k3 hS hK hkA hk1
  go_wp2_with fail
  refine (look_w p w3).mono ?_
  rintro e w4 ⟨q, N, rfl, hv4, hk4, hq, hN⟩
  have KB4 := KB3.thru hk4
  have hS4 := hS3.still hk4
  have hK4 := hk4.at hK3 (fun x => x)
  have hNB : N ≠ B := by have := hS3.map.lt; omega
  have hEN : E ≠ N := by have := lt_at hK3; omega
  have hN3 : w.heap.size ≤ N := Nat.le_trans KB3.size hN
  have c0 := cell_at hK4 (i := 0) rfl
  have c1 := cell_at hK4 (i := 1) rfl
  clear KB3 hS3 hk4 hK3
  go_wp2_with fail
  refine (vget_w q N p B f1 _ 1 0 w4 hv4 hS4 hNB).mono ?_
  rintro e w5 ⟨rfl, hv5, hk5⟩
  rw [run_a]
  rw [show vgetT (fun _ => none) (1, 0) = v1 from rfl] at hv5
  have KB5 : Kept (fun _ => False) w w5 := KB4.trans hk5 (fun k h1 h2 => by omega)
  have hS5 : StoreIn p B f1 w5 := hS4.kept hk5 (fun e => hv4.map.off hS4.cell e) (fun e => hNB e.symm)
  have hK5 := hk5.at hK4 hEN
  clear KB4 hS4 hK4 hk5 hv4 c0 c1
  obtain ⟨A, hA⟩ : ∃ A : Nat, w5.heap.size = A := ⟨_, rfl⟩
  go_wp2_with (first | (refine list_wnew rfl wide_V _ _ rfl A rfl (vc (numV 5)) rfl _ rfl hA rfl (vc_one _) ?_))
  obtain ⟨w6, h6⟩ : ∃ w6, w5.alloc (.cells (vc (numV 5)).toArray 29) = w6 := ⟨_, rfl⟩
  have k6 : Kept (fun _ => False) w5 w6 := by subst h6; exact (Kept.refl _ _).alloc _
  have hA6 : w6.heap[A]? = some (.cells (vc (numV 5)).toArray 29 (0, 0)) := by subst h6; exact alloc_at' _ hA
  try rw [h6]
  clear h6
  have KB6 := KB5.thru k6
  have hS6 := hS5.still k6
  have hv6 := hv5.still k6
  have hK6 := k6.at hK5 (fun x => x)
  have hAN : A ≠ N := by have := hv5.map.lt; omega
  clear KB5 hS5 hv5 hK5 k6
  have KS : ∀ w', Kept (fun n => n = N) w6 w' → (w'.cell? ⟨E, 0, none⟩ = some (.int .i64 1) ∧ w'.cell? ⟨E, 1, none⟩ = some (.int .i64 0)) :=
    fun w' hk' => ⟨hk'.cell (cell_at hK6 rfl) hEN, hk'.cell (cell_at hK6 rfl) hEN⟩
  refine wp_region_held_drew (S := fun w' => Kept (fun n => n = N) w6 w') (by kernel_rfl) ((Kept.refl _ _).drew) (fun hHeld => ?_)
  refine h_take 0 (some 24) (Op.move (Operand.tmp 3)) 31 ?v8 rfl rfl (by kernel_rfl) (by kernel_rfl) (by kernel_rfl) (fun _ _ _ h => h) ?hy8 hHeld ?_
  case hy8 => (intro _ _ _ w hSw; have hcs := KS _ hSw; go_simp; try with_reducible rfl)
  simp only [Act.put, List.setIfInBounds_toArray, List.set_cons_zero, List.set_cons_succ]
  refine h_take 1 (some 25) (Op.load 25 (Operand.tmp 2)) 25 ?v9 rfl rfl (by kernel_rfl) (by kernel_rfl) (by kernel_rfl) (fun _ _ _ h => h) ?hy9 hHeld ?_
  case hy9 => (intro _ _ _ w hSw; have hcs := KS _ hSw; go_simp; try with_reducible rfl)
  simp only [Act.put, List.setIfInBounds_toArray, List.set_cons_zero, List.set_cons_succ]
  refine h_step 2 (some 26) (Op.call { callee := Callee.value (Operand.func 9), args := #[Operand.const (Value.int IntKind.i64 6)], argTypes := #[3] }) 29 rfl rfl (by kernel_rfl) (fun _ _ _ K hK => ?_)
  go_simp
  refine (num_w 6 _).mono ?_
  rintro e w7 ⟨rfl, hk7⟩
  have k7 : Kept (fun _ => False) w6 w7 := (Kept.refl _ w6).drew.thru hk7
  go_wp2_with fail
  refine hK.out _ _ (k7.mono (fun _ _ e => e.elim)) (fun hHeld => ?_)
  clear hK K
  try simp only [Act.put, List.setIfInBounds_toArray, List.set_cons_zero, List.set_cons_succ]
  refine h_step 3 (some 27) (Op.call { callee := Callee.value (Operand.func 12), args := #[Operand.tmp 24, Operand.tmp 25, Operand.tmp 26], argTypes := #[31, 25, 29] }) 0 rfl rfl (by kernel_rfl) (fun _ _ _ K hK => ?_)
  go_simp
  refine (vput_w q N p v1 1 0 (numV 6) w7 (hv6.still k7)).mono ?_
  rintro e w8 ⟨rfl, hv8, hk8⟩
  rw [show vputT v1 (1, 0) (numV 6) = v2 from rfl] at hv8
  have k8 : Kept (fun n => n = N) w6 w8 := (k7.mono (fun _ _ e => e.elim)).trans hk8 (fun _ _ e => e)
  go_wp2_with fail
  refine hK.out _ _ (k8) (fun hHeld => ?_)
  clear hK K
  try simp only [Act.put, List.setIfInBounds_toArray, List.set_cons_zero, List.set_cons_succ]
  refine wpAnyH_done (by kernel_rfl) ?_ _
  have KB8 : Kept (fun _ => False) w w8 := KB6.trans k8 (fun k h1 h2 => by omega)
  have hS8 : StoreIn p B f1 w8 := hS6.kept k8 (fun e => hv6.map.off hS6.cell e) (fun e => hNB e.symm)
  have hK8 := k8.at hK6 hEN
  have hA8 := k8.at hA6 hAN
  have c0 := cell_at hK8 (i := 0) rfl
  have c1 := cell_at hK8 (i := 1) rfl
  clear hHeld KS hk8 k8 hk7 k7 KB6 hS6 hv6 hK6 hA6
  go_wp2_with fail
  refine (vget_w q N p B f1 _ 1 0 w8 hv8 hS8 hNB).mono ?_
  rintro e w9 ⟨rfl, hv9, hk9⟩
  rw [run_b]
  rw [show vgetT v2 (1, 0) = v3 from rfl] at hv9
  have KB9 : Kept (fun _ => False) w w9 := KB8.trans hk9 (fun k h1 h2 => by omega)
  have hS9 : StoreIn p B f1 w9 := hS8.kept hk9 (fun e => hv8.map.off hS8.cell e) (fun e => hNB e.symm)
  have hK9 := hk9.at hK8 hEN
  have hA9 := hk9.at hA8 hAN
  clear KB8 hS8 hK8 hA8 hk9 hv8 c0 c1
  obtain ⟨C, hC⟩ : ∃ C : Nat, w9.heap.size = C := ⟨_, rfl⟩
  go_wp2_with (first | (refine list_wnew rfl wide_V _ _ rfl C rfl (vc (numV 6)) rfl _ rfl hC rfl (vc_one _) ?_))
  obtain ⟨wA, h10⟩ : ∃ w10, w9.alloc (.cells (vc (numV 6)).toArray 29) = w10 := ⟨_, rfl⟩
  have k10 : Kept (fun _ => False) w9 wA := by subst h10; exact (Kept.refl _ _).alloc _
  have hC10 : wA.heap[C]? = some (.cells (vc (numV 6)).toArray 29 (0, 0)) := by subst h10; exact alloc_at' _ hC
  try rw [h10]
  clear h10
  have KB := KB9.thru k10
  have hs := hS9.still k10
  have hv := hv9.still k10
  have hK10 := k10.at hK9 (fun x => x)
  have hA10 := k10.at hA9 (fun x => x)
  clear KB9 hS9 hv9 hK9 hA9 k10
  have KS : ∀ w', Kept (fun _ => False) wA w' → (w'.cell? ⟨E, 0, none⟩ = some (.int .i64 1) ∧ w'.cell? ⟨E, 1, none⟩ = some (.int .i64 0)) :=
    fun w' hk' => ⟨hk'.cell (cell_at hK10 rfl) (fun x => x), hk'.cell (cell_at hK10 rfl) (fun x => x)⟩
  refine wp_region_held_drew (S := fun w' => Kept (fun _ => False) wA w') (by kernel_rfl) ((Kept.refl _ _).drew) (fun hHeld => ?_)
  refine h_take 0 (some 31) (Op.load 29 (Operand.tmp 4)) 29 (vv (numV 5)) rfl rfl (by kernel_rfl) (by kernel_rfl) (by kernel_rfl) (fun _ _ _ h => h) (fun _ _ _ w hSw => exec_load rfl (load_wide wide_V (range_kept (whole_range hA10) hSw (fun x => x)) rfl)) hHeld ?_
  simp only [Act.put, List.setIfInBounds_toArray, List.set_cons_zero, List.set_cons_succ]
  refine h_step 1 (some 32) (Op.call { callee := Callee.value (Operand.func 9), args := #[Operand.const (Value.int IntKind.i64 5)], argTypes := #[3] }) 29 rfl rfl (by kernel_rfl) (fun _ _ _ K hK => ?_)
  go_simp
  refine (num_w 5 _).mono ?_
  rintro e x1 ⟨rfl, j1⟩
  replace j1 : Kept (fun _ => False) wA x1 := (Kept.refl _ wA).drew.thru j1
  go_wp2_with fail
  refine hK.out _ _ (j1) (fun hHeld => ?_)
  clear hK K
  try simp only [Act.put, List.setIfInBounds_toArray, List.set_cons_zero, List.set_cons_succ]
  refine h_take 2 (some 33) (Op.binOp BinOp.eql 29 (Operand.tmp 31) (Operand.tmp 32) 29) 4 (.bool true) rfl rfl (by kernel_rfl) (by kernel_rfl) (by kernel_rfl) (fun _ _ _ h => h) (fun _ _ _ w hSw => exec_eqV (a := numV 5) rfl rfl) hHeld ?_
  simp only [Act.put, List.setIfInBounds_toArray, List.set_cons_zero, List.set_cons_succ]
  refine h_take 3 (some 34) (Op.move (Operand.tmp 33)) 4 ?v10 rfl rfl (by kernel_rfl) (by kernel_rfl) (by kernel_rfl) (fun _ _ _ h => h) ?hy10 hHeld ?_
  case hy10 => (intro _ _ _ w hSw; have hcs := KS _ hSw; go_simp; try with_reducible rfl)
  simp only [Act.put, List.setIfInBounds_toArray, List.set_cons_zero, List.set_cons_succ]
  refine h_take 4 (some 35) (Op.load 29 (Operand.tmp 5)) 29 (vv (numV 6)) rfl rfl (by kernel_rfl) (by kernel_rfl) (by kernel_rfl) (fun _ _ _ h => h) (fun _ _ _ w hSw => exec_load rfl (load_wide wide_V (range_kept (whole_range hC10) hSw (fun x => x)) rfl)) hHeld ?_
  simp only [Act.put, List.setIfInBounds_toArray, List.set_cons_zero, List.set_cons_succ]
  refine h_step 5 (some 36) (Op.call { callee := Callee.value (Operand.func 9), args := #[Operand.const (Value.int IntKind.i64 6)], argTypes := #[3] }) 29 rfl rfl (by kernel_rfl) (fun _ _ _ K hK => ?_)
  go_simp
  refine (num_w 6 _).mono ?_
  rintro e x2 ⟨rfl, j2⟩
  replace j2 : Kept (fun _ => False) wA x2 := j1.thru j2
  go_wp2_with fail
  refine hK.out _ _ (j2) (fun hHeld => ?_)
  clear hK K
  try simp only [Act.put, List.setIfInBounds_toArray, List.set_cons_zero, List.set_cons_succ]
  refine h_take 6 (some 37) (Op.binOp BinOp.eql 29 (Operand.tmp 35) (Operand.tmp 36) 29) 4 (.bool true) rfl rfl (by kernel_rfl) (by kernel_rfl) (by kernel_rfl) (fun _ _ _ h => h) (fun _ _ _ w hSw => exec_eqV (a := numV 6) rfl rfl) hHeld ?_
  simp only [Act.put, List.setIfInBounds_toArray, List.set_cons_zero, List.set_cons_succ]
  refine h_take 7 (some 38) (Op.pick (Operand.tmp 34) (Operand.tmp 37) (Operand.const (Value.bool false))) 4 ?v11 rfl rfl (by kernel_rfl) (by kernel_rfl) (by kernel_rfl) (fun _ _ _ h => h) ?hy11 hHeld ?_
  case hy11 => (intro _ _ _ w hSw; have hcs := KS _ hSw; go_simp; try with_reducible rfl)
  simp only [Act.put, List.setIfInBounds_toArray, List.set_cons_zero, List.set_cons_succ]
  refine h_take 8 (some 39) (Op.move (Operand.tmp 38)) 4 ?v12 rfl rfl (by kernel_rfl) (by kernel_rfl) (by kernel_rfl) (fun _ _ _ h => h) ?hy12 hHeld ?_
  case hy12 => (intro _ _ _ w hSw; have hcs := KS _ hSw; go_simp; try with_reducible rfl)
  simp only [Act.put, List.setIfInBounds_toArray, List.set_cons_zero, List.set_cons_succ]
  refine h_take 9 (some 40) (Op.move (Operand.tmp 1)) 22 ?v13 rfl rfl (by kernel_rfl) (by kernel_rfl) (by kernel_rfl) (fun _ _ _ h => h) ?hy13 hHeld ?_
  case hy13 => (intro _ _ _ w hSw; have hcs := KS _ hSw; go_simp; try with_reducible rfl)
  simp only [Act.put, List.setIfInBounds_toArray, List.set_cons_zero, List.set_cons_succ]
  refine h_take 10 (some 41) (Op.load 25 (Operand.tmp 2)) 25 ?v14 rfl rfl (by kernel_rfl) (by kernel_rfl) (by kernel_rfl) (fun _ _ _ h => h) ?hy14 hHeld ?_
  case hy14 => (intro _ _ _ w hSw; have hcs := KS _ hSw; go_simp; try with_reducible rfl)
  simp only [Act.put, List.setIfInBounds_toArray, List.set_cons_zero, List.set_cons_succ]
  refine h_step 11 (some 42) (Op.call { callee := Callee.value (Operand.func 13), args := #[Operand.tmp 40, Operand.tmp 41], argTypes := #[22, 25] }) 29 rfl rfl (by kernel_rfl) (fun _ _ _ K hK => ?_)
  go_simp
  refine (get_w p B f1 1 0 _ (hs.still j2)).mono ?_
  rintro e x3 ⟨rfl, j3⟩
  rw [run_s]
  replace j3 : Kept (fun _ => False) wA x3 := j2.thru j3
  go_wp2_with fail
  refine hK.out _ _ (j3) (fun hHeld => ?_)
  clear hK K
  try simp only [Act.put, List.setIfInBounds_toArray, List.set_cons_zero, List.set_cons_succ]
  refine h_step 12 (some 43) (Op.call { callee := Callee.value (Operand.func 9), args := #[Operand.const (Value.int IntKind.i64 5)], argTypes := #[3] }) 29 rfl rfl (by kernel_rfl) (fun _ _ _ K hK => ?_)
  go_simp
  refine (num_w 5 _).mono ?_
  rintro e x4 ⟨rfl, j4⟩
  replace j4 : Kept (fun _ => False) wA x4 := j3.thru j4
  go_wp2_with fail
  refine hK.out _ _ (j4) (fun hHeld => ?_)
  clear hK K
  try simp only [Act.put, List.setIfInBounds_toArray, List.set_cons_zero, List.set_cons_succ]
  refine h_take 13 (some 44) (Op.binOp BinOp.eql 29 (Operand.tmp 42) (Operand.tmp 43) 29) 4 (.bool true) rfl rfl (by kernel_rfl) (by kernel_rfl) (by kernel_rfl) (fun _ _ _ h => h) (fun _ _ _ w hSw => exec_eqV (a := numV 5) rfl rfl) hHeld ?_
  simp only [Act.put, List.setIfInBounds_toArray, List.set_cons_zero, List.set_cons_succ]
  refine h_take 14 (some 45) (Op.pick (Operand.tmp 39) (Operand.tmp 44) (Operand.const (Value.bool false))) 4 ?v15 rfl rfl (by kernel_rfl) (by kernel_rfl) (by kernel_rfl) (fun _ _ _ h => h) ?hy15 hHeld ?_
  case hy15 => (intro _ _ _ w hSw; have hcs := KS _ hSw; go_simp; try with_reducible rfl)
  simp only [Act.put, List.setIfInBounds_toArray, List.set_cons_zero, List.set_cons_succ]
  refine h_take 15 (some 46) (Op.move (Operand.tmp 45)) 4 ?v16 rfl rfl (by kernel_rfl) (by kernel_rfl) (by kernel_rfl) (fun _ _ _ h => h) ?hy16 hHeld ?_
  case hy16 => (intro _ _ _ w hSw; have hcs := KS _ hSw; go_simp; try with_reducible rfl)
  simp only [Act.put, List.setIfInBounds_toArray, List.set_cons_zero, List.set_cons_succ]
  refine h_take 16 (some 47) (Op.move (Operand.tmp 3)) 31 ?v17 rfl rfl (by kernel_rfl) (by kernel_rfl) (by kernel_rfl) (fun _ _ _ h => h) ?hy17 hHeld ?_
  case hy17 => (intro _ _ _ w hSw; have hcs := KS _ hSw; go_simp; try with_reducible rfl)
  simp only [Act.put, List.setIfInBounds_toArray, List.set_cons_zero, List.set_cons_succ]
  refine h_take 18 (some 49) (Op.load 25 (Operand.tmp 2)) 25 ?v18 rfl rfl (by kernel_rfl) (by kernel_rfl) (by kernel_rfl) (fun _ _ _ h => h) ?hy18 hHeld ?_
  case hy18 => (intro _ _ _ w hSw; have hcs := KS _ hSw; go_simp; try with_reducible rfl)
  simp only [Act.put, List.setIfInBounds_toArray, List.set_cons_zero, List.set_cons_succ]
  clear j1 j2 j3
  refine h_two 17 (some 48) (Op.call { callee := Callee.value (Operand.func 15), args := #[Operand.tmp 47], argTypes := #[31] }) 36 19 (some 50) (Op.buildSlice 36 1 #[(0, Operand.tmp 49)]) 36 rfl rfl rfl rfl (by kernel_rfl) (fun _ _ _ K hK => ?_) (fun _ _ _ K hK => ?_)
  · go_simp
    have RE := reads_w q N p _ x4 (hv.still j4)
    rw [reads1] at RE
    refine RE.mono ?_
    rintro e x5 ⟨rv, rfl, ho5⟩
    clear RE
    have j5 : Kept (fun _ => False) wA x5 := j4.thru ho5.kept
    go_wp2_with fail
    refine hK.out _ _ (j5) (fun hHeld => ?_)
    clear hK K
    try simp only [Act.put, List.setIfInBounds_toArray, List.set_cons_zero, List.set_cons_succ]
    refine h_step 19 (some 50) (Op.buildSlice 36 1 #[(0, Operand.tmp 49)]) 36 rfl rfl (by kernel_rfl) (fun _ _ _ K hK => ?_)
    go_simp
    have K19 : Kept (fun _ => False) wA (x5.alloc (.cells #[.int .i64 1, .int .i64 0] 25)) := j5.alloc _
    refine hK.out _ _ (K19) (fun hHeld => ?_)
    clear hK K
    try simp only [Act.put, List.setIfInBounds_toArray, List.set_cons_zero, List.set_cons_succ]
    refine h_step 20 (some 51) (Op.call { callee := Callee.value (Operand.func 14), args := #[Operand.tmp 48, Operand.tmp 50], argTypes := #[36, 36] }) 4 rfl rfl (by kernel_rfl) (fun _ _ _ K hK => ?_)
    go_simp
    refine (same_w _ _ [(1, 0)] (by simp) _ (ho5.src.kept ((Kept.refl _ _).alloc _)) (SrcK.lone (alloc_at _ _))).mono ?_
    rintro e w20 ⟨rfl, hk20⟩
    have k20 : Kept (fun _ => False) wA w20 := K19.thru hk20
    clear hk20
    go_wp2_with fail
    refine hK.out _ _ (k20) (fun hHeld => ?_)
    clear hK K
    try simp only [Act.put, List.setIfInBounds_toArray, List.set_cons_zero, List.set_cons_succ]
    refine h_take 21 (some 52) (Op.pick (Operand.tmp 46) (Operand.tmp 51) (Operand.const (Value.bool false))) 4 ?v19 rfl rfl (by kernel_rfl) (by kernel_rfl) (by kernel_rfl) (fun _ _ _ h => h) ?hy19 hHeld ?_
    case hy19 => (intro _ _ _ w hSw; have hcs := KS _ hSw; go_simp; try with_reducible rfl)
    simp only [Act.put, List.setIfInBounds_toArray, List.set_cons_zero, List.set_cons_succ]
    refine h_take 22 (some 53) (Op.move (Operand.tmp 52)) 4 ?v20 rfl rfl (by kernel_rfl) (by kernel_rfl) (by kernel_rfl) (fun _ _ _ h => h) ?hy20 hHeld ?_
    case hy20 => (intro _ _ _ w hSw; have hcs := KS _ hSw; go_simp; try with_reducible rfl)
    simp only [Act.put, List.setIfInBounds_toArray, List.set_cons_zero, List.set_cons_succ]
    refine h_take 23 (some 54) (Op.move (Operand.tmp 3)) 31 ?v21 rfl rfl (by kernel_rfl) (by kernel_rfl) (by kernel_rfl) (fun _ _ _ h => h) ?hy21 hHeld ?_
    case hy21 => (intro _ _ _ w hSw; have hcs := KS _ hSw; go_simp; try with_reducible rfl)
    simp only [Act.put, List.setIfInBounds_toArray, List.set_cons_zero, List.set_cons_succ]
    have RD := redo_w q N p _ w20 (hv.still k20)
    rw [redo1] at RD
    refine h_take 25 (some 56) (Op.load 25 (Operand.tmp 2)) 25 ?v22 rfl rfl (by kernel_rfl) (by kernel_rfl) (by kernel_rfl) (fun _ _ _ h => h) ?hy22 hHeld ?_
    case hy22 => (intro _ _ _ w hSw; have hcs := KS _ hSw; go_simp; try with_reducible rfl)
    simp only [Act.put, List.setIfInBounds_toArray, List.set_cons_zero, List.set_cons_succ]
    refine h_step 24 (some 55) (Op.call { callee := Callee.value (Operand.func 17), args := #[Operand.tmp 54], argTypes := #[31] }) 41 rfl rfl (by kernel_rfl) (fun _ _ _ K hK => ?_)
    go_simp
    refine RD.mono ?_
    rintro e w24 ⟨rv, rfl, ho24⟩
    clear RD
    have k24 : Kept (fun _ => False) wA w24 := k20.thru ho24.kept
    go_wp2_with fail
    refine hK.out _ _ (k24) (fun hHeld => ?_)
    clear hK K
    try simp only [Act.put, List.setIfInBounds_toArray, List.set_cons_zero, List.set_cons_succ]
    refine h_step 26 (some 57) (Op.call { callee := Callee.value (Operand.func 9), args := #[Operand.const (Value.int IntKind.i64 6)], argTypes := #[3] }) 29 rfl rfl (by kernel_rfl) (fun _ _ _ K hK => ?_)
    go_simp
    refine (num_w 6 _).mono ?_
    rintro e w26 ⟨rfl, hk26⟩
    have k26 : Kept (fun _ => False) wA w26 := k24.thru hk26
    go_wp2_with fail
    refine hK.out _ _ (k26) (fun hHeld => ?_)
    clear hK K
    try simp only [Act.put, List.setIfInBounds_toArray, List.set_cons_zero, List.set_cons_succ]
    refine h_take 27 (some 58) (Op.build 40 #[(0, Operand.tmp 56), (1, Operand.tmp 57)]) 40 (wtv ((1, 0), numV 6)) rfl rfl (by kernel_rfl) (by kernel_rfl) (by kernel_rfl) (fun _ _ _ h => h) (fun _ _ _ w hSw => exec_build (build_write (1, 0) (numV 6) w) (by kernel_rfl)) hHeld ?_
    simp only [Act.put, List.setIfInBounds_toArray, List.set_cons_zero, List.set_cons_succ]
    have hsl := slice_write ((1, 0), numV 6) w26
    refine h_step 28 (some 59) (Op.buildSlice 41 1 #[(0, Operand.tmp 58)]) 41 rfl rfl (by kernel_rfl) (fun _ _ _ K hK => ?_)
    refine wp_yield (exec_slice hsl (by kernel_rfl)) ?_
    refine hK.out _ _ (k26.alloc _) (fun hHeld => ?_)
    clear hK K
    try simp only [Act.put, List.setIfInBounds_toArray, List.set_cons_zero, List.set_cons_succ]
    refine h_step 29 (some 60) (Op.call { callee := Callee.value (Operand.func 16), args := #[Operand.tmp 55, Operand.tmp 59], argTypes := #[41, 41] }) 4 rfl rfl (by kernel_rfl) (fun _ _ _ K hK => ?_)
    go_simp
    refine (samew_w _ _ [((1, 0), numV 6)] (by simp) _ ((OwnR.src wc_length ho24).kept (hk26.alloc _)) (SrcR.lone (alloc_at _ _))).mono ?_
    rintro e w29 ⟨rfl, hk29⟩
    have k29 : Kept (fun _ => False) wA w29 := (k26.alloc _).thru hk29
    go_wp2_with fail
    refine hK.out _ _ (k29) (fun hHeld => ?_)
    clear hK K
    try simp only [Act.put, List.setIfInBounds_toArray, List.set_cons_zero, List.set_cons_succ]
    refine h_take 30 (some 61) (Op.pick (Operand.tmp 53) (Operand.tmp 60) (Operand.const (Value.bool false))) 4 ?v23 rfl rfl (by kernel_rfl) (by kernel_rfl) (by kernel_rfl) (fun _ _ _ h => h) ?hy23 hHeld ?_
    case hy23 => (intro _ _ _ w hSw; have hcs := KS _ hSw; go_simp; try with_reducible rfl)
    simp only [Act.put, List.setIfInBounds_toArray, List.set_cons_zero, List.set_cons_succ]
    refine h_take 31 (some 0) (Op.assign (Operand.tmp 61)) 4 ?v24 rfl rfl (by kernel_rfl) (by kernel_rfl) (by kernel_rfl) (fun _ _ _ h => h) ?hy24 hHeld ?_
    case hy24 => (intro _ _ _ w hSw; have hcs := KS _ hSw; go_simp; try with_reducible rfl)
    simp only [Act.put, List.setIfInBounds_toArray, List.set_cons_zero, List.set_cons_succ]
    refine wpAnyH_done (by kernel_rfl) ?_ _
    clear hHeld KS
    have HZ := KB.thru k29
    go_wp2
    go_ret
    exact ⟨rfl, HZ⟩
  · go_simp
    have j5 : Kept (fun _ => False) wA (x4.alloc (.cells #[.int .i64 1, .int .i64 0] 25)) := j4.alloc _
    have hn5 : (x4.alloc (.cells #[.int .i64 1, .int .i64 0] 25)).heap[x4.heap.size]? = some (.cells #[.int .i64 1, .int .i64 0] 25 (0, 0)) := alloc_at _ _
    refine hK.out _ _ (j5) (fun hHeld => ?_)
    clear hK K
    try simp only [Act.put, List.setIfInBounds_toArray, List.set_cons_zero, List.set_cons_succ]
    refine h_step 17 (some 48) (Op.call { callee := Callee.value (Operand.func 15), args := #[Operand.tmp 47], argTypes := #[31] }) 36 rfl rfl (by kernel_rfl) (fun _ _ _ K hK => ?_)
    go_simp
    have RE := reads_w q N p _ _ (hv.still j5)
    rw [reads1] at RE
    refine RE.mono ?_
    rintro e x5 ⟨rv, rfl, ho5⟩
    clear RE
    have K19 : Kept (fun _ => False) wA x5 := j5.thru ho5.kept
    go_wp2_with fail
    refine hK.out _ _ (K19) (fun hHeld => ?_)
    clear hK K
    try simp only [Act.put, List.setIfInBounds_toArray, List.set_cons_zero, List.set_cons_succ]
    refine h_step 20 (some 51) (Op.call { callee := Callee.value (Operand.func 14), args := #[Operand.tmp 48, Operand.tmp 50], argTypes := #[36, 36] }) 4 rfl rfl (by kernel_rfl) (fun _ _ _ K hK => ?_)
    go_simp
    refine (same_w _ _ [(1, 0)] (by simp) _ (ho5.src) ((SrcK.lone hn5).kept ho5.kept)).mono ?_
    rintro e w20 ⟨rfl, hk20⟩
    have k20 : Kept (fun _ => False) wA w20 := K19.thru hk20
    clear hk20
    go_wp2_with fail
    refine hK.out _ _ (k20) (fun hHeld => ?_)
    clear hK K
    try simp only [Act.put, List.setIfInBounds_toArray, List.set_cons_zero, List.set_cons_succ]
    refine h_take 21 (some 52) (Op.pick (Operand.tmp 46) (Operand.tmp 51) (Operand.const (Value.bool false))) 4 ?v25 rfl rfl (by kernel_rfl) (by kernel_rfl) (by kernel_rfl) (fun _ _ _ h => h) ?hy25 hHeld ?_
    case hy25 => (intro _ _ _ w hSw; have hcs := KS _ hSw; go_simp; try with_reducible rfl)
    simp only [Act.put, List.setIfInBounds_toArray, List.set_cons_zero, List.set_cons_succ]
    refine h_take 22 (some 53) (Op.move (Operand.tmp 52)) 4 ?v26 rfl rfl (by kernel_rfl) (by kernel_rfl) (by kernel_rfl) (fun _ _ _ h => h) ?hy26 hHeld ?_
    case hy26 => (intro _ _ _ w hSw; have hcs := KS _ hSw; go_simp; try with_reducible rfl)
    simp only [Act.put, List.setIfInBounds_toArray, List.set_cons_zero, List.set_cons_succ]
    refine h_take 23 (some 54) (Op.move (Operand.tmp 3)) 31 ?v27 rfl rfl (by kernel_rfl) (by kernel_rfl) (by kernel_rfl) (fun _ _ _ h => h) ?hy27 hHeld ?_
    case hy27 => (intro _ _ _ w hSw; have hcs := KS _ hSw; go_simp; try with_reducible rfl)
    simp only [Act.put, List.setIfInBounds_toArray, List.set_cons_zero, List.set_cons_succ]
    have RD := redo_w q N p _ w20 (hv.still k20)
    rw [redo1] at RD
    refine h_take 25 (some 56) (Op.load 25 (Operand.tmp 2)) 25 ?v28 rfl rfl (by kernel_rfl) (by kernel_rfl) (by kernel_rfl) (fun _ _ _ h => h) ?hy28 hHeld ?_
    case hy28 => (intro _ _ _ w hSw; have hcs := KS _ hSw; go_simp; try with_reducible rfl)
    simp only [Act.put, List.setIfInBounds_toArray, List.set_cons_zero, List.set_cons_succ]
    refine h_step 24 (some 55) (Op.call { callee := Callee.value (Operand.func 17), args := #[Operand.tmp 54], argTypes := #[31] }) 41 rfl rfl (by kernel_rfl) (fun _ _ _ K hK => ?_)
    go_simp
    refine RD.mono ?_
    rintro e w24 ⟨rv, rfl, ho24⟩
    clear RD
    have k24 : Kept (fun _ => False) wA w24 := k20.thru ho24.kept
    go_wp2_with fail
    refine hK.out _ _ (k24) (fun hHeld => ?_)
    clear hK K
    try simp only [Act.put, List.setIfInBounds_toArray, List.set_cons_zero, List.set_cons_succ]
    refine h_step 26 (some 57) (Op.call { callee := Callee.value (Operand.func 9), args := #[Operand.const (Value.int IntKind.i64 6)], argTypes := #[3] }) 29 rfl rfl (by kernel_rfl) (fun _ _ _ K hK => ?_)
    go_simp
    refine (num_w 6 _).mono ?_
    rintro e w26 ⟨rfl, hk26⟩
    have k26 : Kept (fun _ => False) wA w26 := k24.thru hk26
    go_wp2_with fail
    refine hK.out _ _ (k26) (fun hHeld => ?_)
    clear hK K
    try simp only [Act.put, List.setIfInBounds_toArray, List.set_cons_zero, List.set_cons_succ]
    refine h_take 27 (some 58) (Op.build 40 #[(0, Operand.tmp 56), (1, Operand.tmp 57)]) 40 (wtv ((1, 0), numV 6)) rfl rfl (by kernel_rfl) (by kernel_rfl) (by kernel_rfl) (fun _ _ _ h => h) (fun _ _ _ w hSw => exec_build (build_write (1, 0) (numV 6) w) (by kernel_rfl)) hHeld ?_
    simp only [Act.put, List.setIfInBounds_toArray, List.set_cons_zero, List.set_cons_succ]
    have hsl := slice_write ((1, 0), numV 6) w26
    refine h_step 28 (some 59) (Op.buildSlice 41 1 #[(0, Operand.tmp 58)]) 41 rfl rfl (by kernel_rfl) (fun _ _ _ K hK => ?_)
    refine wp_yield (exec_slice hsl (by kernel_rfl)) ?_
    refine hK.out _ _ (k26.alloc _) (fun hHeld => ?_)
    clear hK K
    try simp only [Act.put, List.setIfInBounds_toArray, List.set_cons_zero, List.set_cons_succ]
    refine h_step 29 (some 60) (Op.call { callee := Callee.value (Operand.func 16), args := #[Operand.tmp 55, Operand.tmp 59], argTypes := #[41, 41] }) 4 rfl rfl (by kernel_rfl) (fun _ _ _ K hK => ?_)
    go_simp
    refine (samew_w _ _ [((1, 0), numV 6)] (by simp) _ ((OwnR.src wc_length ho24).kept (hk26.alloc _)) (SrcR.lone (alloc_at _ _))).mono ?_
    rintro e w29 ⟨rfl, hk29⟩
    have k29 : Kept (fun _ => False) wA w29 := (k26.alloc _).thru hk29
    go_wp2_with fail
    refine hK.out _ _ (k29) (fun hHeld => ?_)
    clear hK K
    try simp only [Act.put, List.setIfInBounds_toArray, List.set_cons_zero, List.set_cons_succ]
    refine h_take 30 (some 61) (Op.pick (Operand.tmp 53) (Operand.tmp 60) (Operand.const (Value.bool false))) 4 ?v29 rfl rfl (by kernel_rfl) (by kernel_rfl) (by kernel_rfl) (fun _ _ _ h => h) ?hy29 hHeld ?_
    case hy29 => (intro _ _ _ w hSw; have hcs := KS _ hSw; go_simp; try with_reducible rfl)
    simp only [Act.put, List.setIfInBounds_toArray, List.set_cons_zero, List.set_cons_succ]
    refine h_take 31 (some 0) (Op.assign (Operand.tmp 61)) 4 ?v30 rfl rfl (by kernel_rfl) (by kernel_rfl) (by kernel_rfl) (fun _ _ _ h => h) ?hy30 hHeld ?_
    case hy30 => (intro _ _ _ w hSw; have hcs := KS _ hSw; go_simp; try with_reducible rfl)
    simp only [Act.put, List.setIfInBounds_toArray, List.set_cons_zero, List.set_cons_succ]
    refine wpAnyH_done (by kernel_rfl) ?_ _
    clear hHeld KS
    have HZ := KB.thru k29
    go_wp2
    go_ret
    exact ⟨rfl, HZ⟩
end Go.Proofs.Ytehifngelkenaaa
