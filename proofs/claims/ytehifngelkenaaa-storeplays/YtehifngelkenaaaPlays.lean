/- The statement on any calls; no conditions. -/
import Derived.Test.YtehifngelkenaaaGameF
import Derived.Deep.CutBlock
namespace Go.Proofs.Ytehifngelkenaaa
open Go.RowKit
set_option linter.unusedSimpArgs false

set_option maxRecDepth 100000 in
set_option maxHeartbeats 4000000 in
theorem plays_law (ao : Option Addr) (len cap lb off : Nat) (Q : Nat → Q3) (hao : 0 < len → ao = some ⟨lb, off, none⟩) (w : World) (hc : ∀ i, i < len → w.rangeAt lb (off + i * 20) (ac (Q i))) :
    Calls Try.prog 4 #[.slice ao len cap] w fun e w' => e = .returned (.bool true) ∧ Kept (fun _ => False) w w' := by
  have HC : Hid (∀ i, i < len → w.rangeAt lb (off + i * 20) (ac (Q i))) := hc
  clear hc
  go_enter Try.func4, Try.ntmps4
  go_wp2_with fail
  refine (new_w w).mono ?_
  rintro e w1 ⟨p, B, rfl, hS1, hk1, hp, hB⟩
  go_wp2_with fail
  refine (rnew_w w1).mono ?_
  rintro e w2 ⟨rp, rB, rfl, hR2, hk2, hrp, hrB⟩
  go_wp2_with fail
  refine (look_w p w2).mono ?_
  rintro e w3 ⟨q, N, rfl, hV3, hk3, hq, hN⟩
  go_wp2_with fail
  refine (rview_w rp w3).mono ?_
  rintro e w4 ⟨rq, R, W, rfl, hX4, hk4, hrq, hR, hW⟩
  have H0 : Hid (GameIn w p B q N rp rB rq R W (fun _ => none) (fun _ => none) (fun _ => none) (fun _ => none) w4) := by
    have l1 := hS1.map.lt
    have l2 := hR2.map.lt
    have l3 := hV3.map.lt
    have s1 := hk1.size
    have s2 := hk2.size
    have s3 := hk3.size
    exact ⟨((hS1.still hk2).still hk3).still hk4, hV3.still hk4, (hR2.still hk3).still hk4, hX4, ((hk1.thru hk2).thru hk3).thru hk4, by omega, by omega, by omega, by omega, by omega, by omega, by omega, by omega, by omega, by omega, by omega, by omega, by omega, by omega⟩
  clear hS1 hR2 hV3 hX4 hk1 hk2 hk3 hk4 hrB hN hR hW hB
  go_upto_block 0 with fail
  go_cut [5, 6, 7, 8, 9, 11, 13, 14] from 29 to 172 (fun _ _ _ _ _ _ _ _ wx => ∃ (q N rq R W : Nat) (f : StF) (g : VwF), Hid (GameIn w p B q N rp rB rq R W f f g g wx))
  case first =>
    as_aux_lemma =>
    go_wp2_with fail
    go_loopw [5, 6, 7] (fun a b i wr => ∃ (j q N rq R W : Nat) (f : StF) (g : VwF), a = .pointer (some ⟨q, 0, none⟩) ∧ b = .pointer (some ⟨rq, 0, none⟩) ∧ i = .int .i64 j ∧ j ≤ len ∧ j ≤ 40 ∧ Hid (GameIn w p B q N rp rB rq R W f f g g wr ∧ Noted g)) (fun _ _ i _ => 40 - (intOf i).toNat)
    case atStart => exact ⟨0, q, N, rq, R, W, _, _, rfl, rfl, rfl, Nat.zero_le _, Nat.zero_le _, H0.out, noted_none⟩
    case round =>
      clear H0 hrq hq
      obtain ⟨j, q, N, rq, R, W, f, g, rfl, rfl, rfl, hjl, hj40, HH⟩ := hrel
      by_cases hlt : j < len ∧ j < 40
      · obtain ⟨hj1, hj2⟩ := hlt
        have r0 := range_kept (HC.out j hj1) HH.out.1.kept (fun x => x)
        obtain ⟨⟨kd0, ⟨kx, ky⟩, v⟩, hQ⟩ : ∃ t, Q j = t := ⟨_, rfl⟩
        rw [hQ] at r0
        obtain rfl := hao (by omega)
        have t1 : (j : Int) < (len : Int) := by omega
        have t2 : (j : Int) < 40 := by omega
        have t0 : (0 : Int) ≤ (j : Int) := by omega
        obtain ⟨D, hD⟩ : ∃ D : Nat, wr.heap.size = D := ⟨_, rfl⟩
        obtain ⟨x1, h1⟩ : ∃ x1, wr.alloc (.cells (ac (kd0, (kx, ky), v)).toArray 50) = x1 := ⟨_, rfl⟩
        have k1 : Kept (fun _ => False) wr x1 := by subst h1; exact (Kept.refl _ _).alloc _
        have hD1 : x1.heap[D]? = some (.cells (ac (kd0, (kx, ky), v)).toArray 50 (0, 0)) := by subst h1; exact alloc_at' _ hD
        have HP : Hid (PlayIn w p B q N rp rB rq R W D f g (kd0, (kx, ky), v) x1) := ⟨HH.out.1.still k1, HH.out.2, hD1⟩
        have c0 := (ask_parts hD1).1
        simp only at c0
        clear HC hQ HH k1 hD1
        go_upto_block 2 with (first
          | (refine list_wload rfl wide_A _ rfl _ _ rfl (ac (kd0, (kx, ky), v)) r0 rfl ?_)
          | (refine list_wnew rfl wide_A _ _ rfl D rfl (ac (kd0, (kx, ky), v)) rfl _ rfl hD rfl (ac_one _) ?_))
        clear h1 r0 c0
        go_cut [5, 6, 9, 11, 13, 14] from 43 to 131 (fun a b c _ _ _ wx => ∃ (q N rq R W : Nat) (f : StF) (g : VwF), a = .pointer (some ⟨q, 0, none⟩) ∧ b = .pointer (some ⟨rq, 0, none⟩) ∧ c = .bool true ∧ Hid (PlayIn w p B q N rp rB rq R W D f g (kd0, (kx, ky), v) wx))
        case first =>
          as_aux_lemma =>
          have hG := HP.out.1
          have hNt := HP.out.2.1
          have hD1 := HP.out.2.2
          have dB : D ≠ B := hG.s.map.off hD1
          have dN : D ≠ N := hG.v.map.off hD1
          have drB : D ≠ rB := hG.rs.map.off hD1
          have dR : D ≠ R := hG.rv.r.off hD1
          have dW : D ≠ W := hG.rv.w.off hD1
          by_cases h1 : kd0 = 1
          · subst h1
            as_aux_lemma =>
            go_wp2_with fail
            obtain ⟨-, c1, c2, r3⟩ := ask_parts hD1
            simp only at c1 c2 r3
            have KS : ∀ w', Kept (fun n => n = B ∨ n = rB) x1 w' → (w'.cell? ⟨D, 1, none⟩ = some (.int .i64 kx) ∧ w'.cell? ⟨D, 1 + 1, none⟩ = some (.int .i64 ky)) :=
              fun w' hk' => ⟨hk'.cell c1 (by simp; omega), hk'.cell c2 (by simp; omega)⟩
            have KV : ∀ w', Kept (fun n => n = B ∨ n = rB) x1 w' → w'.rangeAt D 3 (vc v) := fun w' hk' => range_kept r3 hk' (by omega)
            refine wp_region_held_drew (S := fun w' => Kept (fun n => n = B ∨ n = rB) x1 w') (by kernel_rfl) ((Kept.refl _ _).drew) (fun hHeld => ?_)
            refine h_take 0 (some 47) (Op.move (Operand.tmp 3)) 22 ?v1 rfl rfl (by kernel_rfl) (by kernel_rfl) (by kernel_rfl) (fun _ _ _ h => h) ?hy1 hHeld ?_
            case hy1 => (intro _ _ _ w hSw; have hcs := KS _ hSw; go_simp; try with_reducible rfl)
            simp only [Act.put, List.setIfInBounds_toArray, List.set_cons_zero, List.set_cons_succ]
            refine h_take 1 (some 48) (Op.fieldAddr 50 (Operand.tmp 8) 1) 0 ?v2 rfl rfl (by kernel_rfl) (by kernel_rfl) (by kernel_rfl) (fun _ _ _ h => h) ?hy2 hHeld ?_
            case hy2 => (intro _ _ _ w hSw; have hcs := KS _ hSw; go_simp; try with_reducible rfl)
            simp only [Act.put, List.setIfInBounds_toArray, List.set_cons_zero, List.set_cons_succ]
            refine h_take 2 (some 49) (Op.load 25 (Operand.tmp 48)) 25 ?v3 rfl rfl (by kernel_rfl) (by kernel_rfl) (by kernel_rfl) (fun _ _ _ h => h) ?hy3 hHeld ?_
            case hy3 => (intro _ _ _ w hSw; have hcs := KS _ hSw; go_simp; try with_reducible rfl)
            simp only [Act.put, List.setIfInBounds_toArray, List.set_cons_zero, List.set_cons_succ]
            refine h_take 3 (some 50) (Op.fieldAddr 50 (Operand.tmp 8) 2) 0 ?v4 rfl rfl (by kernel_rfl) (by kernel_rfl) (by kernel_rfl) (fun _ _ _ h => h) ?hy4 hHeld ?_
            case hy4 => (intro _ _ _ w hSw; have hcs := KS _ hSw; go_simp; try with_reducible rfl)
            simp only [Act.put, List.setIfInBounds_toArray, List.set_cons_zero, List.set_cons_succ]
            refine h_take 4 (some 51) (Op.load 29 (Operand.tmp 50)) 29 (vv v) rfl rfl (by kernel_rfl) (by kernel_rfl) (by kernel_rfl) (fun _ _ _ h => h) (fun _ _ _ w hSw => exec_load rfl (load_wide wide_V (KV w hSw) rfl)) hHeld ?_
            simp only [Act.put, List.setIfInBounds_toArray, List.set_cons_zero, List.set_cons_succ]
            refine h_take 6 (some 53) (Op.move (Operand.tmp 4)) 45 ?v5 rfl rfl (by kernel_rfl) (by kernel_rfl) (by kernel_rfl) (fun _ _ _ h => h) ?hy5 hHeld ?_
            case hy5 => (intro _ _ _ w hSw; have hcs := KS _ hSw; go_simp; try with_reducible rfl)
            simp only [Act.put, List.setIfInBounds_toArray, List.set_cons_zero, List.set_cons_succ]
            refine h_take 7 (some 54) (Op.fieldAddr 50 (Operand.tmp 8) 1) 0 ?v6 rfl rfl (by kernel_rfl) (by kernel_rfl) (by kernel_rfl) (fun _ _ _ h => h) ?hy6 hHeld ?_
            case hy6 => (intro _ _ _ w hSw; have hcs := KS _ hSw; go_simp; try with_reducible rfl)
            simp only [Act.put, List.setIfInBounds_toArray, List.set_cons_zero, List.set_cons_succ]
            refine h_take 8 (some 55) (Op.load 25 (Operand.tmp 54)) 25 ?v7 rfl rfl (by kernel_rfl) (by kernel_rfl) (by kernel_rfl) (fun _ _ _ h => h) ?hy7 hHeld ?_
            case hy7 => (intro _ _ _ w hSw; have hcs := KS _ hSw; go_simp; try with_reducible rfl)
            simp only [Act.put, List.setIfInBounds_toArray, List.set_cons_zero, List.set_cons_succ]
            refine h_take 9 (some 56) (Op.fieldAddr 50 (Operand.tmp 8) 2) 0 ?v8 rfl rfl (by kernel_rfl) (by kernel_rfl) (by kernel_rfl) (fun _ _ _ h => h) ?hy8 hHeld ?_
            case hy8 => (intro _ _ _ w hSw; have hcs := KS _ hSw; go_simp; try with_reducible rfl)
            simp only [Act.put, List.setIfInBounds_toArray, List.set_cons_zero, List.set_cons_succ]
            refine h_take 10 (some 57) (Op.load 29 (Operand.tmp 56)) 29 (vv v) rfl rfl (by kernel_rfl) (by kernel_rfl) (by kernel_rfl) (fun _ _ _ h => h) (fun _ _ _ w hSw => exec_load rfl (load_wide wide_V (KV w hSw) rfl)) hHeld ?_
            simp only [Act.put, List.setIfInBounds_toArray, List.set_cons_zero, List.set_cons_succ]
            refine h_step 5 (some 52) (Op.call { callee := Callee.value (Operand.func 8), args := #[Operand.tmp 47, Operand.tmp 49, Operand.tmp 51], argTypes := #[22, 25, 29] }) 4 rfl rfl (by kernel_rfl) (fun _ _ _ K hK => ?_)
            go_simp
            refine (put_w p B f kx ky v x1.drew (hG.s.still (Kept.refl _ _).drew)).mono ?_
            rintro e x2 ⟨rfl, hs2, hk2⟩
            have k2 : Kept (fun n => n = B) x1 x2 := (Kept.refl _ x1).drew.trans hk2 (fun _ _ e => e)
            have hG2 := hG.putS hs2 k2
            go_wp2_with fail
            refine hK.out _ _ (k2.mono (fun _ _ e => .inl e)) (fun hHeld => ?_)
            clear hK K
            try simp only [Act.put, List.setIfInBounds_toArray, List.set_cons_zero, List.set_cons_succ]
            refine h_step 11 (some 58) (Op.call { callee := Callee.value (Operand.func 20), args := #[Operand.tmp 53, Operand.tmp 55, Operand.tmp 57], argTypes := #[45, 25, 29] }) 4 rfl rfl (by kernel_rfl) (fun _ _ _ K hK => ?_)
            go_simp
            refine (rput_w rp rB f kx ky v x2 hG2.rs).mono ?_
            rintro e x3 ⟨rfl, hs3, hk3⟩
            have hG3 := hG2.putR hs3 hk3
            have k3 : Kept (fun n => n = B ∨ n = rB) x1 x3 := (k2.mono (fun _ _ e => .inl e)).trans hk3 (fun _ _ e => .inr e)
            go_wp2_with fail
            refine hK.out _ _ (k3) (fun hHeld => ?_)
            clear hK K
            try simp only [Act.put, List.setIfInBounds_toArray, List.set_cons_zero, List.set_cons_succ]
            refine h_take 12 (some 59) (Op.binOp BinOp.eql 4 (Operand.tmp 52) (Operand.tmp 58) 4) 4 (.bool true) rfl rfl (by kernel_rfl) (by kernel_rfl) (by kernel_rfl) (fun _ _ _ h => h) ?_ hHeld ?_
            · intro _ _ _ w hSw; have hcs := KS _ hSw; go_simp
            simp only [Act.put, List.setIfInBounds_toArray, List.set_cons_zero, List.set_cons_succ]
            refine h_take 13 (some 9) (Op.assign (Operand.tmp 59)) 4 ?v9 rfl rfl (by kernel_rfl) (by kernel_rfl) (by kernel_rfl) (fun _ _ _ h => h) ?hy9 hHeld ?_
            case hy9 => (intro _ _ _ w hSw; have hcs := KS _ hSw; go_simp; try with_reducible rfl)
            simp only [Act.put, List.setIfInBounds_toArray, List.set_cons_zero, List.set_cons_succ]
            refine wpAnyH_done (by kernel_rfl) ?_ _
            have HN : Hid (PlayIn w p B q N rp rB rq R W D (putF f (kx, ky) v) g (1, (kx, ky), v) x3) := ⟨hG3, hNt, k3.at hD1 (by omega)⟩
            clear hHeld KS KV hk2 k2 hs2 hG2 hk3 k3 hs3 hG3 c1 c2 r3 hG hD1 HP
            go_wp2
            go_meet
            case rel => exact ⟨q, N, rq, R, W, _, _, rfl, rfl, rfl, HN.out⟩
          by_cases h2 : kd0 = 2
          · subst h2
            as_aux_lemma =>
            go_wp2_with fail
            obtain ⟨-, c1, c2, -⟩ := ask_parts hD1
            simp only at c1 c2
            have KS : ∀ w', Kept (fun n => n = N ∨ n = R) x1 w' → (w'.cell? ⟨D, 1, none⟩ = some (.int .i64 kx) ∧ w'.cell? ⟨D, 1 + 1, none⟩ = some (.int .i64 ky)) :=
              fun w' hk' => ⟨hk'.cell c1 (by simp; omega), hk'.cell c2 (by simp; omega)⟩
            refine wp_region_held_drew (S := fun w' => Kept (fun n => n = N ∨ n = R) x1 w') (by kernel_rfl) ((Kept.refl _ _).drew) (fun hHeld => ?_)
            refine h_take 0 (some 62) (Op.move (Operand.tmp 5)) 31 ?v10 rfl rfl (by kernel_rfl) (by kernel_rfl) (by kernel_rfl) (fun _ _ _ h => h) ?hy10 hHeld ?_
            case hy10 => (intro _ _ _ w hSw; have hcs := KS _ hSw; go_simp; try with_reducible rfl)
            simp only [Act.put, List.setIfInBounds_toArray, List.set_cons_zero, List.set_cons_succ]
            refine h_take 1 (some 63) (Op.fieldAddr 50 (Operand.tmp 8) 1) 0 ?v11 rfl rfl (by kernel_rfl) (by kernel_rfl) (by kernel_rfl) (fun _ _ _ h => h) ?hy11 hHeld ?_
            case hy11 => (intro _ _ _ w hSw; have hcs := KS _ hSw; go_simp; try with_reducible rfl)
            simp only [Act.put, List.setIfInBounds_toArray, List.set_cons_zero, List.set_cons_succ]
            refine h_take 2 (some 64) (Op.load 25 (Operand.tmp 63)) 25 ?v12 rfl rfl (by kernel_rfl) (by kernel_rfl) (by kernel_rfl) (fun _ _ _ h => h) ?hy12 hHeld ?_
            case hy12 => (intro _ _ _ w hSw; have hcs := KS _ hSw; go_simp; try with_reducible rfl)
            simp only [Act.put, List.setIfInBounds_toArray, List.set_cons_zero, List.set_cons_succ]
            refine h_take 4 (some 66) (Op.move (Operand.tmp 6)) 47 ?v13 rfl rfl (by kernel_rfl) (by kernel_rfl) (by kernel_rfl) (fun _ _ _ h => h) ?hy13 hHeld ?_
            case hy13 => (intro _ _ _ w hSw; have hcs := KS _ hSw; go_simp; try with_reducible rfl)
            simp only [Act.put, List.setIfInBounds_toArray, List.set_cons_zero, List.set_cons_succ]
            refine h_take 5 (some 67) (Op.fieldAddr 50 (Operand.tmp 8) 1) 0 ?v14 rfl rfl (by kernel_rfl) (by kernel_rfl) (by kernel_rfl) (fun _ _ _ h => h) ?hy14 hHeld ?_
            case hy14 => (intro _ _ _ w hSw; have hcs := KS _ hSw; go_simp; try with_reducible rfl)
            simp only [Act.put, List.setIfInBounds_toArray, List.set_cons_zero, List.set_cons_succ]
            refine h_take 6 (some 68) (Op.load 25 (Operand.tmp 67)) 25 ?v15 rfl rfl (by kernel_rfl) (by kernel_rfl) (by kernel_rfl) (fun _ _ _ h => h) ?hy15 hHeld ?_
            case hy15 => (intro _ _ _ w hSw; have hcs := KS _ hSw; go_simp; try with_reducible rfl)
            simp only [Act.put, List.setIfInBounds_toArray, List.set_cons_zero, List.set_cons_succ]
            refine h_step 3 (some 65) (Op.call { callee := Callee.value (Operand.func 11), args := #[Operand.tmp 62, Operand.tmp 64], argTypes := #[31, 25] }) 29 rfl rfl (by kernel_rfl) (fun _ _ _ K hK => ?_)
            go_simp
            refine (vget_w q N p B f g kx ky x1.drew (hG.v.still (Kept.refl _ _).drew) (hG.s.still (Kept.refl _ _).drew) (fun e => hG.a1 e.symm)).mono ?_
            rintro e x2 ⟨rfl, hv2, hk2⟩
            have k2 : Kept (fun n => n = N) x1 x2 := (Kept.refl _ x1).drew.trans hk2 (fun _ _ e => e)
            have hG2 := hG.putV hv2 k2
            go_wp2_with fail
            refine hK.out _ _ (k2.mono (fun _ _ e => .inl e)) (fun hHeld => ?_)
            clear hK K
            try simp only [Act.put, List.setIfInBounds_toArray, List.set_cons_zero, List.set_cons_succ]
            refine h_step 7 (some 69) (Op.call { callee := Callee.value (Operand.func 21), args := #[Operand.tmp 66, Operand.tmp 68], argTypes := #[47, 25] }) 29 rfl rfl (by kernel_rfl) (fun _ _ _ K hK => ?_)
            go_simp
            refine (rvget_w rq R W rp rB f g kx ky x2 hG2.rv hG2.rs (fun e => hG.a8 e.symm)).mono ?_
            rintro e x3 ⟨rfl, hv3, hk3⟩
            have hG3 := hG2.getX hv3 hk3
            have k3 : Kept (fun n => n = N ∨ n = R) x1 x3 := (k2.mono (fun _ _ e => .inl e)).trans hk3 (fun _ _ e => .inr e)
            go_wp2_with fail
            refine hK.out _ _ (k3) (fun hHeld => ?_)
            clear hK K
            try simp only [Act.put, List.setIfInBounds_toArray, List.set_cons_zero, List.set_cons_succ]
            refine h_take 8 (some 70) (Op.binOp BinOp.eql 29 (Operand.tmp 65) (Operand.tmp 69) 29) 4 (.bool true) rfl rfl (by kernel_rfl) (by kernel_rfl) (by kernel_rfl) (fun _ _ _ h => h) (fun _ _ _ w hSw => exec_eqV (a := vgetF f g (kx, ky)) rfl rfl) hHeld ?_
            simp only [Act.put, List.setIfInBounds_toArray, List.set_cons_zero, List.set_cons_succ]
            refine h_take 9 (some 9) (Op.assign (Operand.tmp 70)) 4 ?v16 rfl rfl (by kernel_rfl) (by kernel_rfl) (by kernel_rfl) (fun _ _ _ h => h) ?hy16 hHeld ?_
            case hy16 => (intro _ _ _ w hSw; have hcs := KS _ hSw; go_simp; try with_reducible rfl)
            simp only [Act.put, List.setIfInBounds_toArray, List.set_cons_zero, List.set_cons_succ]
            refine wpAnyH_done (by kernel_rfl) ?_ _
            have HN : Hid (PlayIn w p B q N rp rB rq R W D f (vgetT g (kx, ky)) (2, (kx, ky), v) x3) := ⟨hG3, noted_get hNt _, k3.at hD1 (by omega)⟩
            clear hHeld KS hk2 k2 hv2 hG2 hk3 k3 hv3 hG3 c1 c2 hG hD1 HP
            go_wp2
            go_meet
            case rel => exact ⟨q, N, rq, R, W, _, _, rfl, rfl, rfl, HN.out⟩
          by_cases h3 : kd0 = 3
          · subst h3
            as_aux_lemma =>
            obtain ⟨-, c1, c2, r3⟩ := ask_parts hD1
            simp only at c1 c2 r3
            go_wp2_with (first | (refine list_wload rfl wide_V _ rfl D 3 rfl (vc v) r3 rfl ?_))
            refine (vput_w q N p g kx ky v x1 hG.v).mono ?_
            rintro e x2 ⟨rfl, hv2, hk2⟩
            have hG2 := hG.putV hv2 hk2
            have hD2 := hk2.at hD1 dN
            clear c1 c2 r3
            obtain ⟨-, c1, c2, r3⟩ := ask_parts hD2
            simp only at c1 c2 r3
            go_wp2_with (first | (refine list_wload rfl wide_V _ rfl D 3 rfl (vc v) r3 rfl ?_))
            refine (rvput_w rq R W rp g kx ky v x2 hG2.rv).mono ?_
            rintro e x3 ⟨rfl, hv3, hk3⟩
            have HN : Hid (PlayIn w p B q N rp rB rq R W D f (vputT g (kx, ky) v) (3, (kx, ky), v) x3) := ⟨hG2.putX hv3 hk3, noted_put hNt _ _, hk3.at hD2 dW⟩
            clear hk2 hv2 hG2 hk3 hv3 c1 c2 r3 hG hD1 hD2 HP
            go_wp2
            go_meet
            case rel => exact ⟨q, N, rq, R, W, _, _, rfl, rfl, rfl, HN.out⟩
          by_cases h4 : kd0 = 4
          · subst h4
            as_aux_lemma =>
            go_wp2_with fail
            refine (look_w p x1).mono ?_
            rintro e x2 ⟨q', N', rfl, hv2, hk2, hq2, hN2⟩
            go_wp2_with fail
            refine (rview_w rp x2).mono ?_
            rintro e x3 ⟨rq', R', W', rfl, hv3, hk3, hrq3, hR3, hW3⟩
            have HN : Hid (PlayIn w p B q' N' rp rB rq' R' W' D f (fun _ => none) (4, (kx, ky), v) x3) := by
              have hG3 := (hG.still hk2).still hk3
              have l1 := hG.s.map.lt
              have l2 := hG.rs.map.lt
              have l3 := hv2.map.lt
              have s1 := hG.kept.size
              have s2 := hk2.size
              exact ⟨⟨hG3.s, hv2.still hk3, hG3.rs, hv3, hG3.kept, hG.nB, by omega, hG.nrB, by omega, by omega, by omega, hG.a2, by omega, by omega, by omega, by omega, by omega, by omega, by omega⟩, noted_none, (hk2.thru hk3).at hD1 (fun x => x)⟩
            clear hk2 hv2 hk3 hv3 hG hD1 HP
            go_wp2
            go_meet
            case rel => exact ⟨q', N', rq', R', W', _, _, rfl, rfl, rfl, HN.out⟩
          by_cases h5 : kd0 = 5
          · subst h5
            as_aux_lemma =>
            go_wp2_with fail
            refine (redo_w q N p g x1 hG.v).mono ?_
            rintro e x2 ⟨rv1, rfl, ho1⟩
            have hG2 := hG.still ho1.kept
            have hD2 := ho1.kept.at hD1 (fun x => x)
            have src1 := OwnR.src wc_length ho1
            obtain ⟨a1, c1, rfl⟩ := OwnR.shape ho1
            obtain ⟨n1, hn1⟩ : ∃ n1 : Nat, (redoF g).length = n1 := ⟨_, rfl⟩
            have HL1 : Hid ((redoF g).length = n1) := hn1
            have ln1 : n1 ≤ 55 := by rw [← hn1]; exact redo_le g
            rw [hn1] at src1 ⊢
            have HS1 : Hid (GameIn w p B q N rp rB rq R W (putAll f ((redoF g).take 0)) f g g x2 ∧ x2.heap[D]? = some (.cells (ac (5, (kx, ky), v)).toArray 50 (0, 0)) ∧ SrcW (.slice a1 n1 c1) (redoF g) x2) := ⟨hG2, hD2, src1⟩
            clear hn1 ho1 hG2 hD2 src1 hG hD1 HP
            go_upto_block 3 with fail
            go_cut [11, 96] from 97 to 106 (fun _ _ wz => Hid (GameIn w p B q N rp rB rq R W (putAll f (redoF g)) f g g wz ∧ wz.heap[D]? = some (.cells (ac (5, (kx, ky), v)).toArray 50 (0, 0))))
            case first =>
              as_aux_lemma =>
              go_wp2_with fail
              go_loopw [96] (fun i wz => ∃ m : Nat, i = .int .i64 m ∧ m ≤ n1 ∧ Hid (GameIn w p B q N rp rB rq R W (putAll f ((redoF g).take m)) f g g wz ∧ wz.heap[D]? = some (.cells (ac (5, (kx, ky), v)).toArray 50 (0, 0)) ∧ SrcW (.slice a1 n1 c1) (redoF g) wz)) (fun i _ => n1 - (intOf i).toNat)
              case atStart => exact ⟨0, rfl, Nat.zero_le _, HS1.out⟩
              case round =>
                obtain ⟨m, rfl, hm, HZ⟩ := hrel
                clear HS1
                by_cases hlt : m < n1
                · have s1 : (m : Int) < (n1 : Int) := by omega
                  have s0 : (0 : Int) ≤ (m : Int) := by omega
                  obtain ⟨la, lb2, lo2, lc2, e1, -, hla, -, hrow⟩ := HZ.out.2.2
                  simp only [Value.slice.injEq] at e1
                  obtain ⟨rfl, -, rfl⟩ := e1
                  have hml : m < (redoF g).length := by rw [HL1.out]; exact hlt
                  obtain rfl := hla (by omega)
                  have r1 := hrow m _ (List.getElem?_eq_getElem hml)
                  have HT : Hid _ := take_putAll f hml
                  obtain ⟨⟨⟨zx, zy⟩, z⟩, ht⟩ : ∃ t, (redoF g)[m] = t := ⟨_, rfl⟩
                  rw [ht] at r1 HT
                  obtain ⟨F, hF⟩ : ∃ F : Nat, wr.heap.size = F := ⟨_, rfl⟩
                  obtain ⟨z1, h1⟩ : ∃ z1, wr.alloc (.cells (Go.Proofs.Ytehifngelkenaaa.wc ((zx, zy), z)).toArray 40) = z1 := ⟨_, rfl⟩
                  have k1 : Kept (fun _ => False) wr z1 := by subst h1; exact (Kept.refl _ _).alloc _
                  have hF1 : z1.heap[F]? = some (.cells (Go.Proofs.Ytehifngelkenaaa.wc ((zx, zy), z)).toArray 40 (0, 0)) := by subst h1; exact alloc_at' _ hF
                  obtain ⟨d0, d1, r2⟩ := write_cells (whole_range hF1)
                  simp only [Nat.zero_add] at d0 d1 r2
                  clear hrow hla ht
                  go_wp2_with (first
                    | (refine list_wload rfl wide_W _ rfl _ _ rfl (Go.Proofs.Ytehifngelkenaaa.wc ((zx, zy), z)) r1 rfl ?_)
                    | (refine list_wnew rfl wide_W _ _ rfl F rfl (Go.Proofs.Ytehifngelkenaaa.wc ((zx, zy), z)) rfl _ rfl hF rfl (wc_one _) ?_)
                    | (refine list_wload rfl wide_V _ rfl F 2 rfl (vc z) r2 rfl ?_))
                  have hG1 := HZ.out.1.still k1
                  refine (put_w p B _ zx zy z z1 hG1.s).mono ?_
                  rintro e y2 ⟨rfl, hs2, hk2⟩
                  have HN : Hid (GameIn w p B q N rp rB rq R W (putAll f ((redoF g).take (m + 1))) f g g y2 ∧ y2.heap[D]? = some (.cells (ac (5, (kx, ky), v)).toArray 50 (0, 0)) ∧ SrcW (.slice (some ⟨lb2, lo2, none⟩) n1 c1) (redoF g) y2) :=
                    ⟨by rw [HT.out]; exact hG1.putS hs2 hk2, hk2.at (k1.at HZ.out.2.1 (fun x => x)) dB, (HZ.out.2.2.kept k1).keptM wc_pos hG1.s.map hk2⟩
                  clear HZ HT hs2 hk2 hG1 h1 k1 hF1 d0 d1 r1 r2
                  go_wp2
                  go_roundw
                  case rel => exact ⟨m + 1, by go_num, by omega, HN.out⟩
                  case measure => simp [intOf]; omega
                · obtain rfl : m = n1 := by omega
                  have HR : Hid (GameIn w p B q N rp rB rq R W (putAll f (redoF g)) f g g wr ∧ wr.heap[D]? = some (.cells (ac (5, (kx, ky), v)).toArray 50 (0, 0))) := by
                    have := HZ.out
                    rw [List.take_of_length_le (by rw [HL1.out]; exact Nat.le_refl _)] at this
                    exact ⟨this.1, this.2.1⟩
                  clear HZ
                  go_wp2
                  go_meet
                  case rel => exact HR.out
            case rest =>
              have hG3 := hcut.out.1
              have hD3 := hcut.out.2
              clear hcut HS1
              go_wp2_with fail
              refine (rredo_w rq R W rp g wc hG3.rv).mono ?_
              rintro e x3 ⟨rv2, rfl, ho2⟩
              have hG4 := hG3.still ho2.kept
              have hD4 := ho2.kept.at hD3 (fun x => x)
              have src2 := OwnR.src wc_length ho2
              obtain ⟨a2, c2, rfl⟩ := OwnR.shape ho2
              obtain ⟨n2, hn2⟩ : ∃ n2 : Nat, (redoF g).length = n2 := ⟨_, rfl⟩
              have HL2 : Hid ((redoF g).length = n2) := hn2
              have ln2 : n2 ≤ 55 := by rw [← hn2]; exact redo_le g
              rw [hn2] at src2 ⊢
              have HS2 : Hid (GameIn w p B q N rp rB rq R W (putAll f (redoF g)) (putAll f ((redoF g).take 0)) g g x3 ∧ x3.heap[D]? = some (.cells (ac (5, (kx, ky), v)).toArray 50 (0, 0)) ∧ SrcW (.slice a2 n2 c2) (redoF g) x3) := ⟨hG4, hD4, src2⟩
              clear hn2 ho2 hG4 hD4 src2 hG3 hD3
              as_aux_lemma =>
              go_wp2_with fail
              go_loopw [110] (fun i wz => ∃ m : Nat, i = .int .i64 m ∧ m ≤ n2 ∧ Hid (GameIn w p B q N rp rB rq R W (putAll f (redoF g)) (putAll f ((redoF g).take m)) g g wz ∧ wz.heap[D]? = some (.cells (ac (5, (kx, ky), v)).toArray 50 (0, 0)) ∧ SrcW (.slice a2 n2 c2) (redoF g) wz)) (fun i _ => n2 - (intOf i).toNat)
              case atStart => exact ⟨0, rfl, Nat.zero_le _, HS2.out⟩
              case round =>
                obtain ⟨m, rfl, hm, HZ⟩ := hrel
                clear HS2
                by_cases hlt : m < n2
                · have s1 : (m : Int) < (n2 : Int) := by omega
                  have s0 : (0 : Int) ≤ (m : Int) := by omega
                  obtain ⟨la, lb2, lo2, lc2, e1, -, hla, -, hrow⟩ := HZ.out.2.2
                  simp only [Value.slice.injEq] at e1
                  obtain ⟨rfl, -, rfl⟩ := e1
                  have hml : m < (redoF g).length := by rw [HL2.out]; exact hlt
                  obtain rfl := hla (by omega)
                  have r1 := hrow m _ (List.getElem?_eq_getElem hml)
                  have HT : Hid _ := take_putAll f hml
                  obtain ⟨⟨⟨zx, zy⟩, z⟩, ht⟩ : ∃ t, (redoF g)[m] = t := ⟨_, rfl⟩
                  rw [ht] at r1 HT
                  obtain ⟨F, hF⟩ : ∃ F : Nat, wr.heap.size = F := ⟨_, rfl⟩
                  obtain ⟨z1, h1⟩ : ∃ z1, wr.alloc (.cells (Go.Proofs.Ytehifngelkenaaa.wc ((zx, zy), z)).toArray 40) = z1 := ⟨_, rfl⟩
                  have k1 : Kept (fun _ => False) wr z1 := by subst h1; exact (Kept.refl _ _).alloc _
                  have hF1 : z1.heap[F]? = some (.cells (Go.Proofs.Ytehifngelkenaaa.wc ((zx, zy), z)).toArray 40 (0, 0)) := by subst h1; exact alloc_at' _ hF
                  obtain ⟨d0, d1, r2⟩ := write_cells (whole_range hF1)
                  simp only [Nat.zero_add] at d0 d1 r2
                  clear hrow hla ht
                  go_wp2_with (first
                    | (refine list_wload rfl wide_W _ rfl _ _ rfl (Go.Proofs.Ytehifngelkenaaa.wc ((zx, zy), z)) r1 rfl ?_)
                    | (refine list_wnew rfl wide_W _ _ rfl F rfl (Go.Proofs.Ytehifngelkenaaa.wc ((zx, zy), z)) rfl _ rfl hF rfl (wc_one _) ?_)
                    | (refine list_wload rfl wide_V _ rfl F 2 rfl (vc z) r2 rfl ?_))
                  have hG1 := HZ.out.1.still k1
                  refine (rput_w rp rB _ zx zy z z1 hG1.rs).mono ?_
                  rintro e y2 ⟨rfl, hs2, hk2⟩
                  have HN : Hid (GameIn w p B q N rp rB rq R W (putAll f (redoF g)) (putAll f ((redoF g).take (m + 1))) g g y2 ∧ y2.heap[D]? = some (.cells (ac (5, (kx, ky), v)).toArray 50 (0, 0)) ∧ SrcW (.slice (some ⟨lb2, lo2, none⟩) n2 c2) (redoF g) y2) :=
                    ⟨by rw [HT.out]; exact hG1.putR hs2 hk2, hk2.at (k1.at HZ.out.2.1 (fun x => x)) drB, (HZ.out.2.2.kept k1).keptM wc_pos hG1.rs.map hk2⟩
                  clear HZ HT hs2 hk2 hG1 h1 k1 hF1 d0 d1 r1 r2
                  go_wp2
                  go_roundw
                  case rel => exact ⟨m + 1, by go_num, by omega, HN.out⟩
                  case measure => simp [intOf]; omega
                · obtain rfl : m = n2 := by omega
                  have HN : Hid (PlayIn w p B q N rp rB rq R W D (putAll f (redoF g)) g (5, (kx, ky), v) wr) := by
                    have := HZ.out
                    rw [List.take_of_length_le (by rw [HL2.out]; exact Nat.le_refl _)] at this
                    exact ⟨this.1, hNt, this.2.1⟩
                  clear HZ
                  go_wp2
                  go_meet
                  case rel => exact ⟨q, N, rq, R, W, _, _, rfl, rfl, rfl, HN.out⟩
          by_cases h6 : kd0 = 6
          · subst h6
            as_aux_lemma =>
            go_wp2_with fail
            refine (twin_w p B f x1 hG.s).mono ?_
            rintro e x2 ⟨p', B', rfl, hT2, hk2, hp', hB'⟩
            have hG2 := hG.still hk2
            have hD2 := hk2.at hD1 (fun x => x)
            obtain ⟨-, c1, c2, -⟩ := ask_parts hD2
            simp only at c1 c2
            have dB' : D ≠ B' := hT2.map.off hD2
            have hnew : w.heap.size ≤ B' := Nat.le_trans hG.kept.size hB'
            go_wp2_with fail
            have KS : ∀ w', Kept (fun n => n = B') x2 w' → (w'.cell? ⟨D, 1, none⟩ = some (.int .i64 kx) ∧ w'.cell? ⟨D, 1 + 1, none⟩ = some (.int .i64 ky)) :=
              fun w' hk' => ⟨hk'.cell c1 dB', hk'.cell c2 dB'⟩
            refine wp_region_held_drew (S := fun w' => Kept (fun n => n = B') x2 w') (by kernel_rfl) ((Kept.refl _ _).drew) (fun hHeld => ?_)
            refine h_take 0 (some 127) (Op.move (Operand.tmp 14)) 22 ?v17 rfl rfl (by kernel_rfl) (by kernel_rfl) (by kernel_rfl) (fun _ _ _ h => h) ?hy17 hHeld ?_
            case hy17 => (intro _ _ _ w hSw; have hcs := KS _ hSw; go_simp; try with_reducible rfl)
            simp only [Act.put, List.setIfInBounds_toArray, List.set_cons_zero, List.set_cons_succ]
            refine h_take 1 (some 128) (Op.fieldAddr 50 (Operand.tmp 8) 1) 0 ?v18 rfl rfl (by kernel_rfl) (by kernel_rfl) (by kernel_rfl) (fun _ _ _ h => h) ?hy18 hHeld ?_
            case hy18 => (intro _ _ _ w hSw; have hcs := KS _ hSw; go_simp; try with_reducible rfl)
            simp only [Act.put, List.setIfInBounds_toArray, List.set_cons_zero, List.set_cons_succ]
            refine h_take 2 (some 129) (Op.load 25 (Operand.tmp 128)) 25 ?v19 rfl rfl (by kernel_rfl) (by kernel_rfl) (by kernel_rfl) (fun _ _ _ h => h) ?hy19 hHeld ?_
            case hy19 => (intro _ _ _ w hSw; have hcs := KS _ hSw; go_simp; try with_reducible rfl)
            simp only [Act.put, List.setIfInBounds_toArray, List.set_cons_zero, List.set_cons_succ]
            refine h_step 3 (some 130) (Op.call { callee := Callee.value (Operand.func 9), args := #[Operand.const (Value.int IntKind.i64 99)], argTypes := #[3] }) 29 rfl rfl (by kernel_rfl) (fun _ _ _ K hK => ?_)
            go_simp
            refine (num_w 99 _).mono ?_
            rintro e x3 ⟨rfl, hk3⟩
            have k3 : Kept (fun _ => False) x2 x3 := (Kept.refl _ x2).drew.thru hk3
            go_wp2_with fail
            refine hK.out _ _ (k3.mono (fun _ _ e => e.elim)) (fun hHeld => ?_)
            clear hK K
            try simp only [Act.put, List.setIfInBounds_toArray, List.set_cons_zero, List.set_cons_succ]
            refine h_step 4 (some 131) (Op.call { callee := Callee.value (Operand.func 8), args := #[Operand.tmp 127, Operand.tmp 129, Operand.tmp 130], argTypes := #[22, 25, 29] }) 4 rfl rfl (by kernel_rfl) (fun _ _ _ K hK => ?_)
            go_simp
            refine (put_w p' B' f kx ky (numV 99) x3 (hT2.still k3)).mono ?_
            rintro e x4 ⟨rfl, hs4, hk4⟩
            have k4 : Kept (fun n => n = B') x2 x4 := (k3.mono (fun _ _ e => e.elim)).trans hk4 (fun _ _ e => e)
            go_wp2_with fail
            refine hK.out _ _ (k4) (fun hHeld => ?_)
            clear hK K
            try simp only [Act.put, List.setIfInBounds_toArray, List.set_cons_zero, List.set_cons_succ]
            refine wpAnyH_done (by kernel_rfl) ?_ _
            have HN : Hid (PlayIn w p B q N rp rB rq R W D f g (6, (kx, ky), v) x4) := by
              have l1 := hG.s.map.lt
              have l2 := hG.rs.map.lt
              have l3 := hG.v.map.lt
              have l4 := hG.rv.r.lt
              have l5 := hG.rv.w.lt
              have e1 := lt_at hG.s.cell
              have e2 := lt_at hG.rs.cell
              have e3 := lt_at hG.v.cell
              have e4 := lt_at hG.rv.cell
              exact ⟨{ hG2 with s := hG2.s.kept k4 (by omega) (by omega), v := hG2.v.kept k4 (by omega) (by omega), rs := hG2.rs.kept k4 (by omega) (by omega), rv := hG2.rv.kept k4 (by omega) (by omega) (by omega), kept := hG2.kept.trans k4 (fun k h1 h2 => by omega) }, hNt, k4.at hD2 dB'⟩
            clear hHeld KS hk2 hT2 hG2 hk3 k3 hs4 hk4 k4 c1 c2 hG hD1 hD2 HP
            go_wp2
            go_meet
            case rel => exact ⟨q, N, rq, R, W, _, _, rfl, rfl, rfl, HN.out⟩
          ·
            as_aux_lemma =>
            clear dB dN drB dR dW hG hNt hD1
            go_wp2
            go_meet
            case rel => exact ⟨q, N, rq, R, W, f, g, rfl, rfl, rfl, HP.out⟩
        case rest =>
          as_aux_lemma =>
          obtain ⟨q', N', rq', R', W', f', g', rfl, rfl, rfl, HN⟩ := hcut
          clear HP
          have hG := HN.out.1
          have hNt := HN.out.2.1
          have hD1 := HN.out.2.2
          obtain ⟨-, c1, c2, -⟩ := ask_parts hD1
          simp only at c1 c2
          have KS : ∀ w', Kept (fun _ => False) wc w' → (w'.cell? ⟨D, 1, none⟩ = some (.int .i64 kx) ∧ w'.cell? ⟨D, 1 + 1, none⟩ = some (.int .i64 ky)) :=
            fun w' hk' => ⟨hk'.cell c1 (fun x => x), hk'.cell c2 (fun x => x)⟩
          go_wp2_with fail
          refine wp_region_held_drew (S := fun w' => Kept (fun _ => False) wc w') (by kernel_rfl) ((Kept.refl _ _).drew) (fun hHeld => ?_)
          refine h_take 0 (some 132) (Op.move (Operand.tmp 9)) 4 ?v20 rfl rfl (by kernel_rfl) (by kernel_rfl) (by kernel_rfl) (fun _ _ _ h => h) ?hy20 hHeld ?_
          case hy20 => (intro _ _ _ w hSw; have hcs := KS _ hSw; go_simp; try with_reducible rfl)
          simp only [Act.put, List.setIfInBounds_toArray, List.set_cons_zero, List.set_cons_succ]
          refine h_take 1 (some 133) (Op.unOp UnOp.not 4 (Operand.tmp 132)) 4 ?v21 rfl rfl (by kernel_rfl) (by kernel_rfl) (by kernel_rfl) (fun _ _ _ h => h) ?hy21 hHeld ?_
          case hy21 => (intro _ _ _ w hSw; have hcs := KS _ hSw; go_simp; try with_reducible rfl)
          simp only [Act.put, List.setIfInBounds_toArray, List.set_cons_zero, List.set_cons_succ]
          refine h_take 2 (some 134) (Op.move (Operand.tmp 133)) 4 ?v22 rfl rfl (by kernel_rfl) (by kernel_rfl) (by kernel_rfl) (fun _ _ _ h => h) ?hy22 hHeld ?_
          case hy22 => (intro _ _ _ w hSw; have hcs := KS _ hSw; go_simp; try with_reducible rfl)
          simp only [Act.put, List.setIfInBounds_toArray, List.set_cons_zero, List.set_cons_succ]
          refine h_take 3 (some 135) (Op.move (Operand.tmp 5)) 31 ?v23 rfl rfl (by kernel_rfl) (by kernel_rfl) (by kernel_rfl) (fun _ _ _ h => h) ?hy23 hHeld ?_
          case hy23 => (intro _ _ _ w hSw; have hcs := KS _ hSw; go_simp; try with_reducible rfl)
          simp only [Act.put, List.setIfInBounds_toArray, List.set_cons_zero, List.set_cons_succ]
          refine h_take 4 (some 136) (Op.binOp BinOp.eql 31 (Operand.tmp 135) (Operand.const (Value.pointer none)) 31) 4 ?v24 rfl rfl (by kernel_rfl) (by kernel_rfl) (by kernel_rfl) (fun _ _ _ h => h) ?hy24 hHeld ?_
          case hy24 => (intro _ _ _ w hSw; have hcs := KS _ hSw; go_simp; try with_reducible rfl)
          simp only [Act.put, List.setIfInBounds_toArray, List.set_cons_zero, List.set_cons_succ]
          refine h_take 5 (some 137) (Op.pick (Operand.tmp 134) (Operand.const (Value.bool true)) (Operand.tmp 136)) 4 ?v25 rfl rfl (by kernel_rfl) (by kernel_rfl) (by kernel_rfl) (fun _ _ _ h => h) ?hy25 hHeld ?_
          case hy25 => (intro _ _ _ w hSw; have hcs := KS _ hSw; go_simp; try with_reducible rfl)
          simp only [Act.put, List.setIfInBounds_toArray, List.set_cons_zero, List.set_cons_succ]
          refine h_take 6 (some 138) (Op.move (Operand.tmp 137)) 4 ?v26 rfl rfl (by kernel_rfl) (by kernel_rfl) (by kernel_rfl) (fun _ _ _ h => h) ?hy26 hHeld ?_
          case hy26 => (intro _ _ _ w hSw; have hcs := KS _ hSw; go_simp; try with_reducible rfl)
          simp only [Act.put, List.setIfInBounds_toArray, List.set_cons_zero, List.set_cons_succ]
          refine h_take 7 (some 139) (Op.move (Operand.tmp 3)) 22 ?v27 rfl rfl (by kernel_rfl) (by kernel_rfl) (by kernel_rfl) (fun _ _ _ h => h) ?hy27 hHeld ?_
          case hy27 => (intro _ _ _ w hSw; have hcs := KS _ hSw; go_simp; try with_reducible rfl)
          simp only [Act.put, List.setIfInBounds_toArray, List.set_cons_zero, List.set_cons_succ]
          refine h_take 8 (some 140) (Op.fieldAddr 50 (Operand.tmp 8) 1) 0 ?v28 rfl rfl (by kernel_rfl) (by kernel_rfl) (by kernel_rfl) (fun _ _ _ h => h) ?hy28 hHeld ?_
          case hy28 => (intro _ _ _ w hSw; have hcs := KS _ hSw; go_simp; try with_reducible rfl)
          simp only [Act.put, List.setIfInBounds_toArray, List.set_cons_zero, List.set_cons_succ]
          refine h_take 9 (some 141) (Op.load 25 (Operand.tmp 140)) 25 ?v29 rfl rfl (by kernel_rfl) (by kernel_rfl) (by kernel_rfl) (fun _ _ _ h => h) ?hy29 hHeld ?_
          case hy29 => (intro _ _ _ w hSw; have hcs := KS _ hSw; go_simp; try with_reducible rfl)
          simp only [Act.put, List.setIfInBounds_toArray, List.set_cons_zero, List.set_cons_succ]
          refine h_take 11 (some 143) (Op.move (Operand.tmp 4)) 45 ?v30 rfl rfl (by kernel_rfl) (by kernel_rfl) (by kernel_rfl) (fun _ _ _ h => h) ?hy30 hHeld ?_
          case hy30 => (intro _ _ _ w hSw; have hcs := KS _ hSw; go_simp; try with_reducible rfl)
          simp only [Act.put, List.setIfInBounds_toArray, List.set_cons_zero, List.set_cons_succ]
          refine h_take 12 (some 144) (Op.fieldAddr 50 (Operand.tmp 8) 1) 0 ?v31 rfl rfl (by kernel_rfl) (by kernel_rfl) (by kernel_rfl) (fun _ _ _ h => h) ?hy31 hHeld ?_
          case hy31 => (intro _ _ _ w hSw; have hcs := KS _ hSw; go_simp; try with_reducible rfl)
          simp only [Act.put, List.setIfInBounds_toArray, List.set_cons_zero, List.set_cons_succ]
          refine h_take 13 (some 145) (Op.load 25 (Operand.tmp 144)) 25 ?v32 rfl rfl (by kernel_rfl) (by kernel_rfl) (by kernel_rfl) (fun _ _ _ h => h) ?hy32 hHeld ?_
          case hy32 => (intro _ _ _ w hSw; have hcs := KS _ hSw; go_simp; try with_reducible rfl)
          simp only [Act.put, List.setIfInBounds_toArray, List.set_cons_zero, List.set_cons_succ]
          refine h_step 10 (some 142) (Op.call { callee := Callee.value (Operand.func 13), args := #[Operand.tmp 139, Operand.tmp 141], argTypes := #[22, 25] }) 29 rfl rfl (by kernel_rfl) (fun _ _ _ K hK => ?_)
          go_simp
          refine (get_w p B f' kx ky wc.drew (hG.s.still (Kept.refl _ _).drew)).mono ?_
          rintro e y1 ⟨rfl, j1⟩
          replace j1 : Kept (fun _ => False) wc y1 := (Kept.refl _ wc).drew.thru j1
          go_wp2_with fail
          refine hK.out _ _ (j1) (fun hHeld => ?_)
          clear hK K
          try simp only [Act.put, List.setIfInBounds_toArray, List.set_cons_zero, List.set_cons_succ]
          refine h_step 14 (some 146) (Op.call { callee := Callee.value (Operand.func 25), args := #[Operand.tmp 143, Operand.tmp 145], argTypes := #[45, 25] }) 29 rfl rfl (by kernel_rfl) (fun _ _ _ K hK => ?_)
          go_simp
          refine (rget_w rp rB f' kx ky y1 (hG.rs.still j1)).mono ?_
          rintro e y2 ⟨rfl, j2⟩
          replace j2 : Kept (fun _ => False) wc y2 := j1.thru j2
          go_wp2_with fail
          refine hK.out _ _ (j2) (fun hHeld => ?_)
          clear hK K
          try simp only [Act.put, List.setIfInBounds_toArray, List.set_cons_zero, List.set_cons_succ]
          refine h_take 15 (some 147) (Op.binOp BinOp.neq 29 (Operand.tmp 142) (Operand.tmp 146) 29) 4 (.bool false) rfl rfl (by kernel_rfl) (by kernel_rfl) (by kernel_rfl) (fun _ _ _ h => h) (fun _ _ _ w hSw => exec_neV (a := lookF f' (kx, ky)) rfl rfl) hHeld ?_
          simp only [Act.put, List.setIfInBounds_toArray, List.set_cons_zero, List.set_cons_succ]
          refine h_take 16 (some 148) (Op.pick (Operand.tmp 138) (Operand.const (Value.bool true)) (Operand.tmp 147)) 4 ?v33 rfl rfl (by kernel_rfl) (by kernel_rfl) (by kernel_rfl) (fun _ _ _ h => h) ?hy33 hHeld ?_
          case hy33 => (intro _ _ _ w hSw; have hcs := KS _ hSw; go_simp; try with_reducible rfl)
          simp only [Act.put, List.setIfInBounds_toArray, List.set_cons_zero, List.set_cons_succ]
          refine h_take 17 (some 149) (Op.move (Operand.tmp 148)) 4 ?v34 rfl rfl (by kernel_rfl) (by kernel_rfl) (by kernel_rfl) (fun _ _ _ h => h) ?hy34 hHeld ?_
          case hy34 => (intro _ _ _ w hSw; have hcs := KS _ hSw; go_simp; try with_reducible rfl)
          simp only [Act.put, List.setIfInBounds_toArray, List.set_cons_zero, List.set_cons_succ]
          refine h_take 18 (some 150) (Op.move (Operand.tmp 5)) 31 ?v35 rfl rfl (by kernel_rfl) (by kernel_rfl) (by kernel_rfl) (fun _ _ _ h => h) ?hy35 hHeld ?_
          case hy35 => (intro _ _ _ w hSw; have hcs := KS _ hSw; go_simp; try with_reducible rfl)
          simp only [Act.put, List.setIfInBounds_toArray, List.set_cons_zero, List.set_cons_succ]
          refine h_take 20 (some 152) (Op.move (Operand.tmp 6)) 47 ?v36 rfl rfl (by kernel_rfl) (by kernel_rfl) (by kernel_rfl) (fun _ _ _ h => h) ?hy36 hHeld ?_
          case hy36 => (intro _ _ _ w hSw; have hcs := KS _ hSw; go_simp; try with_reducible rfl)
          simp only [Act.put, List.setIfInBounds_toArray, List.set_cons_zero, List.set_cons_succ]
          refine h_step 19 (some 151) (Op.call { callee := Callee.value (Operand.func 15), args := #[Operand.tmp 150], argTypes := #[31] }) 36 rfl rfl (by kernel_rfl) (fun _ _ _ K hK => ?_)
          go_simp
          refine (reads_w q' N' p g' y2 (hG.v.still j2)).mono ?_
          rintro e y3 ⟨v3, rfl, o3⟩
          have j3 : Kept (fun _ => False) wc y3 := j2.thru o3.kept
          go_wp2_with fail
          refine hK.out _ _ (j3) (fun hHeld => ?_)
          clear hK K
          try simp only [Act.put, List.setIfInBounds_toArray, List.set_cons_zero, List.set_cons_succ]
          refine h_step 21 (some 153) (Op.call { callee := Callee.value (Operand.func 26), args := #[Operand.tmp 152], argTypes := #[47] }) 36 rfl rfl (by kernel_rfl) (fun _ _ _ K hK => ?_)
          go_simp
          refine (rreads_w rq' R' W' rp g' y3 (hG.rv.still j3)).mono ?_
          rintro e y4 ⟨v4, rfl, o4⟩
          have j4 : Kept (fun _ => False) wc y4 := j3.thru o4.kept
          go_wp2_with fail
          refine hK.out _ _ (j4) (fun hHeld => ?_)
          clear hK K
          try simp only [Act.put, List.setIfInBounds_toArray, List.set_cons_zero, List.set_cons_succ]
          refine h_step 22 (some 154) (Op.call { callee := Callee.value (Operand.func 14), args := #[Operand.tmp 151, Operand.tmp 153], argTypes := #[36, 36] }) 4 rfl rfl (by kernel_rfl) (fun _ _ _ K hK => ?_)
          go_simp
          refine (same_w _ _ (readsF g') (by have := reads_le g'; omega) y4 (o3.src.kept o4.kept) o4.src).mono ?_
          rintro e y5 ⟨rfl, hk5⟩
          have j5 : Kept (fun _ => False) wc y5 := j4.thru hk5
          go_wp2_with fail
          refine hK.out _ _ (j5) (fun hHeld => ?_)
          clear hK K
          try simp only [Act.put, List.setIfInBounds_toArray, List.set_cons_zero, List.set_cons_succ]
          clear o3 o4 j1 j2 j3 j4 hk5
          refine h_take 23 (some 155) (Op.unOp UnOp.not 4 (Operand.tmp 154)) 4 ?v37 rfl rfl (by kernel_rfl) (by kernel_rfl) (by kernel_rfl) (fun _ _ _ h => h) ?hy37 hHeld ?_
          case hy37 => (intro _ _ _ w hSw; have hcs := KS _ hSw; go_simp; try with_reducible rfl)
          simp only [Act.put, List.setIfInBounds_toArray, List.set_cons_zero, List.set_cons_succ]
          refine h_take 24 (some 156) (Op.pick (Operand.tmp 149) (Operand.const (Value.bool true)) (Operand.tmp 155)) 4 ?v38 rfl rfl (by kernel_rfl) (by kernel_rfl) (by kernel_rfl) (fun _ _ _ h => h) ?hy38 hHeld ?_
          case hy38 => (intro _ _ _ w hSw; have hcs := KS _ hSw; go_simp; try with_reducible rfl)
          simp only [Act.put, List.setIfInBounds_toArray, List.set_cons_zero, List.set_cons_succ]
          refine h_take 25 (some 157) (Op.move (Operand.tmp 156)) 4 ?v39 rfl rfl (by kernel_rfl) (by kernel_rfl) (by kernel_rfl) (fun _ _ _ h => h) ?hy39 hHeld ?_
          case hy39 => (intro _ _ _ w hSw; have hcs := KS _ hSw; go_simp; try with_reducible rfl)
          simp only [Act.put, List.setIfInBounds_toArray, List.set_cons_zero, List.set_cons_succ]
          refine h_take 26 (some 158) (Op.move (Operand.tmp 5)) 31 ?v40 rfl rfl (by kernel_rfl) (by kernel_rfl) (by kernel_rfl) (fun _ _ _ h => h) ?hy40 hHeld ?_
          case hy40 => (intro _ _ _ w hSw; have hcs := KS _ hSw; go_simp; try with_reducible rfl)
          simp only [Act.put, List.setIfInBounds_toArray, List.set_cons_zero, List.set_cons_succ]
          refine h_take 28 (some 160) (Op.move (Operand.tmp 6)) 47 ?v41 rfl rfl (by kernel_rfl) (by kernel_rfl) (by kernel_rfl) (fun _ _ _ h => h) ?hy41 hHeld ?_
          case hy41 => (intro _ _ _ w hSw; have hcs := KS _ hSw; go_simp; try with_reducible rfl)
          simp only [Act.put, List.setIfInBounds_toArray, List.set_cons_zero, List.set_cons_succ]
          refine h_step 27 (some 159) (Op.call { callee := Callee.value (Operand.func 27), args := #[Operand.tmp 158], argTypes := #[31] }) 36 rfl rfl (by kernel_rfl) (fun _ _ _ K hK => ?_)
          go_simp
          refine (foot_w q' N' p g' y5 (hG.v.still j5)).mono ?_
          rintro e y6 ⟨v6, rfl, o6⟩
          have j6 : Kept (fun _ => False) wc y6 := j5.thru o6.kept
          go_wp2_with fail
          refine hK.out _ _ (j6) (fun hHeld => ?_)
          clear hK K
          try simp only [Act.put, List.setIfInBounds_toArray, List.set_cons_zero, List.set_cons_succ]
          refine h_step 29 (some 161) (Op.call { callee := Callee.value (Operand.func 28), args := #[Operand.tmp 160], argTypes := #[47] }) 36 rfl rfl (by kernel_rfl) (fun _ _ _ K hK => ?_)
          go_simp
          refine (rfoot_w rq' R' W' rp g' hNt y6 (hG.rv.still j6)).mono ?_
          rintro e y7 ⟨v7, rfl, o7⟩
          have j7 : Kept (fun _ => False) wc y7 := j6.thru o7.kept
          go_wp2_with fail
          refine hK.out _ _ (j7) (fun hHeld => ?_)
          clear hK K
          try simp only [Act.put, List.setIfInBounds_toArray, List.set_cons_zero, List.set_cons_succ]
          refine h_step 30 (some 162) (Op.call { callee := Callee.value (Operand.func 14), args := #[Operand.tmp 159, Operand.tmp 161], argTypes := #[36, 36] }) 4 rfl rfl (by kernel_rfl) (fun _ _ _ K hK => ?_)
          go_simp
          refine (same_w _ _ (footF g') (by have := foot_len g'; omega) y7 (o6.src.kept o7.kept) o7.src).mono ?_
          rintro e y8 ⟨rfl, hk8⟩
          have j8 : Kept (fun _ => False) wc y8 := j7.thru hk8
          go_wp2_with fail
          refine hK.out _ _ (j8) (fun hHeld => ?_)
          clear hK K
          try simp only [Act.put, List.setIfInBounds_toArray, List.set_cons_zero, List.set_cons_succ]
          clear o6 o7 j5 j6 j7 hk8
          refine h_take 31 (some 163) (Op.unOp UnOp.not 4 (Operand.tmp 162)) 4 ?v42 rfl rfl (by kernel_rfl) (by kernel_rfl) (by kernel_rfl) (fun _ _ _ h => h) ?hy42 hHeld ?_
          case hy42 => (intro _ _ _ w hSw; have hcs := KS _ hSw; go_simp; try with_reducible rfl)
          simp only [Act.put, List.setIfInBounds_toArray, List.set_cons_zero, List.set_cons_succ]
          refine h_take 32 (some 164) (Op.pick (Operand.tmp 157) (Operand.const (Value.bool true)) (Operand.tmp 163)) 4 ?v43 rfl rfl (by kernel_rfl) (by kernel_rfl) (by kernel_rfl) (fun _ _ _ h => h) ?hy43 hHeld ?_
          case hy43 => (intro _ _ _ w hSw; have hcs := KS _ hSw; go_simp; try with_reducible rfl)
          simp only [Act.put, List.setIfInBounds_toArray, List.set_cons_zero, List.set_cons_succ]
          refine h_take 33 (some 165) (Op.move (Operand.tmp 164)) 4 ?v44 rfl rfl (by kernel_rfl) (by kernel_rfl) (by kernel_rfl) (fun _ _ _ h => h) ?hy44 hHeld ?_
          case hy44 => (intro _ _ _ w hSw; have hcs := KS _ hSw; go_simp; try with_reducible rfl)
          simp only [Act.put, List.setIfInBounds_toArray, List.set_cons_zero, List.set_cons_succ]
          refine h_take 34 (some 166) (Op.move (Operand.tmp 5)) 31 ?v45 rfl rfl (by kernel_rfl) (by kernel_rfl) (by kernel_rfl) (fun _ _ _ h => h) ?hy45 hHeld ?_
          case hy45 => (intro _ _ _ w hSw; have hcs := KS _ hSw; go_simp; try with_reducible rfl)
          simp only [Act.put, List.setIfInBounds_toArray, List.set_cons_zero, List.set_cons_succ]
          refine h_take 36 (some 168) (Op.move (Operand.tmp 6)) 47 ?v46 rfl rfl (by kernel_rfl) (by kernel_rfl) (by kernel_rfl) (fun _ _ _ h => h) ?hy46 hHeld ?_
          case hy46 => (intro _ _ _ w hSw; have hcs := KS _ hSw; go_simp; try with_reducible rfl)
          simp only [Act.put, List.setIfInBounds_toArray, List.set_cons_zero, List.set_cons_succ]
          refine h_step 35 (some 167) (Op.call { callee := Callee.value (Operand.func 17), args := #[Operand.tmp 166], argTypes := #[31] }) 41 rfl rfl (by kernel_rfl) (fun _ _ _ K hK => ?_)
          go_simp
          refine (redo_w q' N' p g' y8 (hG.v.still j8)).mono ?_
          rintro e y9 ⟨v9, rfl, o9⟩
          have j9 : Kept (fun _ => False) wc y9 := j8.thru o9.kept
          go_wp2_with fail
          refine hK.out _ _ (j9) (fun hHeld => ?_)
          clear hK K
          try simp only [Act.put, List.setIfInBounds_toArray, List.set_cons_zero, List.set_cons_succ]
          refine h_step 37 (some 169) (Op.call { callee := Callee.value (Operand.func 23), args := #[Operand.tmp 168], argTypes := #[47] }) 41 rfl rfl (by kernel_rfl) (fun _ _ _ K hK => ?_)
          go_simp
          refine (rredo_w rq' R' W' rp g' y9 (hG.rv.still j9)).mono ?_
          rintro e y10 ⟨v10, rfl, o10⟩
          have j10 : Kept (fun _ => False) wc y10 := j9.thru o10.kept
          go_wp2_with fail
          refine hK.out _ _ (j10) (fun hHeld => ?_)
          clear hK K
          try simp only [Act.put, List.setIfInBounds_toArray, List.set_cons_zero, List.set_cons_succ]
          refine h_step 38 (some 170) (Op.call { callee := Callee.value (Operand.func 16), args := #[Operand.tmp 167, Operand.tmp 169], argTypes := #[41, 41] }) 4 rfl rfl (by kernel_rfl) (fun _ _ _ K hK => ?_)
          go_simp
          refine (samew_w _ _ (redoF g') (by have := redo_le g'; omega) y10 ((OwnR.src wc_length o9).kept o10.kept) (OwnR.src wc_length o10)).mono ?_
          rintro e y11 ⟨rfl, hk11⟩
          have j11 : Kept (fun _ => False) wc y11 := j10.thru hk11
          go_wp2_with fail
          refine hK.out _ _ (j11) (fun hHeld => ?_)
          clear hK K
          try simp only [Act.put, List.setIfInBounds_toArray, List.set_cons_zero, List.set_cons_succ]
          refine h_take 39 (some 171) (Op.unOp UnOp.not 4 (Operand.tmp 170)) 4 ?v47 rfl rfl (by kernel_rfl) (by kernel_rfl) (by kernel_rfl) (fun _ _ _ h => h) ?hy47 hHeld ?_
          case hy47 => (intro _ _ _ w hSw; have hcs := KS _ hSw; go_simp; try with_reducible rfl)
          simp only [Act.put, List.setIfInBounds_toArray, List.set_cons_zero, List.set_cons_succ]
          refine h_take 40 (some 172) (Op.pick (Operand.tmp 165) (Operand.const (Value.bool true)) (Operand.tmp 171)) 4 ?v48 rfl rfl (by kernel_rfl) (by kernel_rfl) (by kernel_rfl) (fun _ _ _ h => h) ?hy48 hHeld ?_
          case hy48 => (intro _ _ _ w hSw; have hcs := KS _ hSw; go_simp; try with_reducible rfl)
          simp only [Act.put, List.setIfInBounds_toArray, List.set_cons_zero, List.set_cons_succ]
          refine wpAnyH_done (by kernel_rfl) ?_ _
          have HZ : Hid (GameIn w p B q' N' rp rB rq' R' W' f' f' g' g' y11 ∧ Noted g') := ⟨hG.still j11, hNt⟩
          clear hHeld KS c1 c2 hG hD1 hNt HN o9 o10 j8 j9 j10 j11 hk11
          go_wp2
          go_roundw
          case rel => exact ⟨j + 1, q', N', rq', R', W', f', g', rfl, rfl, by go_num, by omega, by omega, HZ.out⟩
          case measure => simp [intOf]; omega
      · have HR : Hid (GameIn w p B q N rp rB rq R W f f g g wr) := HH.out.1
        clear HH HC
        by_cases hj1 : j < len
        · have t1 : (j : Int) < (len : Int) := by omega
          have t2 : ¬ (j : Int) < 40 := by omega
          clear hlt
          go_wp2
          go_meet
          case rel => exact ⟨q, N, rq, R, W, f, g, HR.out⟩
        · have t1 : ¬ (j : Int) < (len : Int) := by omega
          clear hlt
          go_wp2
          go_meet
          case rel => exact ⟨q, N, rq, R, W, f, g, HR.out⟩
  case rest =>
    as_aux_lemma =>
    clear H0 HC hao hrq hq
    obtain ⟨q', N', rq', R', W', f, g, HH⟩ := hcut
    have hG := HH.out
    clear HH
    go_wp2_with fail
    refine (twin_w p B f wc hG.s).mono ?_
    rintro e x1 ⟨p', B', rfl, hT1, hk1, hp', hB'⟩
    have H1 : Hid (GameIn w p B q' N' rp rB rq' R' W' f f g g x1 ∧ StoreIn p' B' f x1) := ⟨hG.still hk1, hT1⟩
    clear hG hT1 hk1
    go_upto_block 7 with fail
    go_cut [16, 17, 18] from 175 to 204 (fun _ _ _ wx => Hid (Kept (fun _ => False) w wx))
    case first =>
      as_aux_lemma =>
      go_wp2_with fail
      go_loopw [16] (fun i wr => ∃ j : Nat, i = .int .i64 j ∧ j ≤ 55 ∧ Hid (GameIn w p B q' N' rp rB rq' R' W' f f g g wr ∧ StoreIn p' B' f wr)) (fun i _ => 55 - (intOf i).toNat)
      case atStart => exact ⟨0, rfl, Nat.zero_le _, H1.out⟩
      case round =>
        obtain ⟨j, rfl, hj, HH⟩ := hrel
        clear H1
        go_wp2_with fail
        refine (refall_w _).mono ?_
        rintro e y0 ⟨rfl, hk0⟩
        have HG : Hid (GameIn w p B q' N' rp rB rq' R' W' f f g g y0 ∧ StoreIn p' B' f y0) := ⟨HH.out.1.still hk0, HH.out.2.still hk0⟩
        clear HH hk0
        by_cases hlt : j < 55
        · have t1 : (j : Int) < 55 := by omega
          go_wp2_with fail
          refine (refat_w (j : Int) _).mono ?_
          rintro e y2 ⟨rfl, hk2⟩
          obtain ⟨⟨kx, ky⟩, hkk⟩ : ∃ k, keyAt (j : Int) = k := ⟨_, rfl⟩
          rw [hkk]
          simp only
          generalize isAt (j : Int) = ia
          obtain ⟨D, hD⟩ : ∃ D : Nat, y2.heap.size = D := ⟨_, rfl⟩
          obtain ⟨y3, h3⟩ : ∃ y3, y2.alloc (.cells #[.int .i64 kx, .int .i64 ky] 25) = y3 := ⟨_, rfl⟩
          have k3 : Kept (fun _ => False) y0 y3 := by subst h3; exact hk2.alloc _
          have hK : y3.heap[D]? = some (.cells #[.int .i64 kx, .int .i64 ky] 25 (0, 0)) := by subst h3; exact alloc_at' _ hD
          go_wp2_with fail
          clear h3 hk2
          have hG := HG.out.1.still k3
          have hT := HG.out.2.still k3
          have KS : ∀ w', Kept (fun _ => False) y3 w' → (w'.cell? ⟨D, 0, none⟩ = some (.int .i64 kx) ∧ w'.cell? ⟨D, 1, none⟩ = some (.int .i64 ky)) :=
            fun w' hk' => ⟨hk'.cell (cell_at hK rfl) (fun x => x), hk'.cell (cell_at hK rfl) (fun x => x)⟩
          refine wp_region_held_drew (S := fun w' => Kept (fun _ => False) y3 w') (by kernel_rfl) ((Kept.refl _ _).drew) (fun hHeld => ?_)
          refine h_take 0 (some 185) (Op.move (Operand.tmp 15)) 22 ?v49 rfl rfl (by kernel_rfl) (by kernel_rfl) (by kernel_rfl) (fun _ _ _ h => h) ?hy49 hHeld ?_
          case hy49 => (intro _ _ _ w hSw; have hcs := KS _ hSw; go_simp; try with_reducible rfl)
          simp only [Act.put, List.setIfInBounds_toArray, List.set_cons_zero, List.set_cons_succ]
          refine h_take 1 (some 186) (Op.binOp BinOp.eql 22 (Operand.tmp 185) (Operand.const (Value.pointer none)) 22) 4 ?v50 rfl rfl (by kernel_rfl) (by kernel_rfl) (by kernel_rfl) (fun _ _ _ h => h) ?hy50 hHeld ?_
          case hy50 => (intro _ _ _ w hSw; have hcs := KS _ hSw; go_simp; try with_reducible rfl)
          simp only [Act.put, List.setIfInBounds_toArray, List.set_cons_zero, List.set_cons_succ]
          refine h_take 2 (some 187) (Op.move (Operand.tmp 186)) 4 ?v51 rfl rfl (by kernel_rfl) (by kernel_rfl) (by kernel_rfl) (fun _ _ _ h => h) ?hy51 hHeld ?_
          case hy51 => (intro _ _ _ w hSw; have hcs := KS _ hSw; go_simp; try with_reducible rfl)
          simp only [Act.put, List.setIfInBounds_toArray, List.set_cons_zero, List.set_cons_succ]
          refine h_take 3 (some 188) (Op.move (Operand.tmp 3)) 22 ?v52 rfl rfl (by kernel_rfl) (by kernel_rfl) (by kernel_rfl) (fun _ _ _ h => h) ?hy52 hHeld ?_
          case hy52 => (intro _ _ _ w hSw; have hcs := KS _ hSw; go_simp; try with_reducible rfl)
          simp only [Act.put, List.setIfInBounds_toArray, List.set_cons_zero, List.set_cons_succ]
          refine h_take 4 (some 189) (Op.load 25 (Operand.tmp 17)) 25 ?v53 rfl rfl (by kernel_rfl) (by kernel_rfl) (by kernel_rfl) (fun _ _ _ h => h) ?hy53 hHeld ?_
          case hy53 => (intro _ _ _ w hSw; have hcs := KS _ hSw; go_simp; try with_reducible rfl)
          simp only [Act.put, List.setIfInBounds_toArray, List.set_cons_zero, List.set_cons_succ]
          refine h_take 6 (some 191) (Op.move (Operand.tmp 4)) 45 ?v54 rfl rfl (by kernel_rfl) (by kernel_rfl) (by kernel_rfl) (fun _ _ _ h => h) ?hy54 hHeld ?_
          case hy54 => (intro _ _ _ w hSw; have hcs := KS _ hSw; go_simp; try with_reducible rfl)
          simp only [Act.put, List.setIfInBounds_toArray, List.set_cons_zero, List.set_cons_succ]
          refine h_take 7 (some 192) (Op.load 25 (Operand.tmp 17)) 25 ?v55 rfl rfl (by kernel_rfl) (by kernel_rfl) (by kernel_rfl) (fun _ _ _ h => h) ?hy55 hHeld ?_
          case hy55 => (intro _ _ _ w hSw; have hcs := KS _ hSw; go_simp; try with_reducible rfl)
          simp only [Act.put, List.setIfInBounds_toArray, List.set_cons_zero, List.set_cons_succ]
          refine h_step 5 (some 190) (Op.call { callee := Callee.value (Operand.func 13), args := #[Operand.tmp 188, Operand.tmp 189], argTypes := #[22, 25] }) 29 rfl rfl (by kernel_rfl) (fun _ _ _ K hK => ?_)
          go_simp
          refine (get_w p B f kx ky y3.drew (hG.s.still (Kept.refl _ _).drew)).mono ?_
          rintro e y4 ⟨rfl, hk4⟩
          have k4 : Kept (fun _ => False) y3 y4 := (Kept.refl _ y3).drew.thru hk4
          go_wp2_with fail
          refine hK.out _ _ (k4) (fun hHeld => ?_)
          clear hK K
          try simp only [Act.put, List.setIfInBounds_toArray, List.set_cons_zero, List.set_cons_succ]
          refine h_step 8 (some 193) (Op.call { callee := Callee.value (Operand.func 25), args := #[Operand.tmp 191, Operand.tmp 192], argTypes := #[45, 25] }) 29 rfl rfl (by kernel_rfl) (fun _ _ _ K hK => ?_)
          go_simp
          refine (rget_w rp rB f kx ky y4 (hG.rs.still k4)).mono ?_
          rintro e y5 ⟨rfl, hk5⟩
          have k5 : Kept (fun _ => False) y3 y5 := k4.thru hk5
          go_wp2_with fail
          refine hK.out _ _ (k5) (fun hHeld => ?_)
          clear hK K
          try simp only [Act.put, List.setIfInBounds_toArray, List.set_cons_zero, List.set_cons_succ]
          refine h_take 9 (some 194) (Op.binOp BinOp.neq 29 (Operand.tmp 190) (Operand.tmp 193) 29) 4 (.bool false) rfl rfl (by kernel_rfl) (by kernel_rfl) (by kernel_rfl) (fun _ _ _ h => h) (fun _ _ _ w hSw => exec_neV (a := lookF f (kx, ky)) rfl rfl) hHeld ?_
          simp only [Act.put, List.setIfInBounds_toArray, List.set_cons_zero, List.set_cons_succ]
          refine h_take 10 (some 195) (Op.pick (Operand.tmp 187) (Operand.const (Value.bool true)) (Operand.tmp 194)) 4 ?v56 rfl rfl (by kernel_rfl) (by kernel_rfl) (by kernel_rfl) (fun _ _ _ h => h) ?hy56 hHeld ?_
          case hy56 => (intro _ _ _ w hSw; have hcs := KS _ hSw; go_simp; try with_reducible rfl)
          simp only [Act.put, List.setIfInBounds_toArray, List.set_cons_zero, List.set_cons_succ]
          refine h_take 11 (some 196) (Op.move (Operand.tmp 195)) 4 ?v57 rfl rfl (by kernel_rfl) (by kernel_rfl) (by kernel_rfl) (fun _ _ _ h => h) ?hy57 hHeld ?_
          case hy57 => (intro _ _ _ w hSw; have hcs := KS _ hSw; go_simp; try with_reducible rfl)
          simp only [Act.put, List.setIfInBounds_toArray, List.set_cons_zero, List.set_cons_succ]
          refine h_take 12 (some 197) (Op.move (Operand.tmp 15)) 22 ?v58 rfl rfl (by kernel_rfl) (by kernel_rfl) (by kernel_rfl) (fun _ _ _ h => h) ?hy58 hHeld ?_
          case hy58 => (intro _ _ _ w hSw; have hcs := KS _ hSw; go_simp; try with_reducible rfl)
          simp only [Act.put, List.setIfInBounds_toArray, List.set_cons_zero, List.set_cons_succ]
          refine h_take 13 (some 198) (Op.load 25 (Operand.tmp 17)) 25 ?v59 rfl rfl (by kernel_rfl) (by kernel_rfl) (by kernel_rfl) (fun _ _ _ h => h) ?hy59 hHeld ?_
          case hy59 => (intro _ _ _ w hSw; have hcs := KS _ hSw; go_simp; try with_reducible rfl)
          simp only [Act.put, List.setIfInBounds_toArray, List.set_cons_zero, List.set_cons_succ]
          refine h_take 15 (some 200) (Op.move (Operand.tmp 4)) 45 ?v60 rfl rfl (by kernel_rfl) (by kernel_rfl) (by kernel_rfl) (fun _ _ _ h => h) ?hy60 hHeld ?_
          case hy60 => (intro _ _ _ w hSw; have hcs := KS _ hSw; go_simp; try with_reducible rfl)
          simp only [Act.put, List.setIfInBounds_toArray, List.set_cons_zero, List.set_cons_succ]
          refine h_take 16 (some 201) (Op.load 25 (Operand.tmp 17)) 25 ?v61 rfl rfl (by kernel_rfl) (by kernel_rfl) (by kernel_rfl) (fun _ _ _ h => h) ?hy61 hHeld ?_
          case hy61 => (intro _ _ _ w hSw; have hcs := KS _ hSw; go_simp; try with_reducible rfl)
          simp only [Act.put, List.setIfInBounds_toArray, List.set_cons_zero, List.set_cons_succ]
          refine h_step 14 (some 199) (Op.call { callee := Callee.value (Operand.func 13), args := #[Operand.tmp 197, Operand.tmp 198], argTypes := #[22, 25] }) 29 rfl rfl (by kernel_rfl) (fun _ _ _ K hK => ?_)
          go_simp
          refine (get_w p' B' f kx ky y5 (hT.still k5)).mono ?_
          rintro e y6 ⟨rfl, hk6⟩
          have k6 : Kept (fun _ => False) y3 y6 := k5.thru hk6
          go_wp2_with fail
          refine hK.out _ _ (k6) (fun hHeld => ?_)
          clear hK K
          try simp only [Act.put, List.setIfInBounds_toArray, List.set_cons_zero, List.set_cons_succ]
          refine h_step 17 (some 202) (Op.call { callee := Callee.value (Operand.func 25), args := #[Operand.tmp 200, Operand.tmp 201], argTypes := #[45, 25] }) 29 rfl rfl (by kernel_rfl) (fun _ _ _ K hK => ?_)
          go_simp
          refine (rget_w rp rB f kx ky y6 (hG.rs.still k6)).mono ?_
          rintro e y7 ⟨rfl, hk7⟩
          have k7 : Kept (fun _ => False) y3 y7 := k6.thru hk7
          go_wp2_with fail
          refine hK.out _ _ (k7) (fun hHeld => ?_)
          clear hK K
          try simp only [Act.put, List.setIfInBounds_toArray, List.set_cons_zero, List.set_cons_succ]
          refine h_take 18 (some 203) (Op.binOp BinOp.neq 29 (Operand.tmp 199) (Operand.tmp 202) 29) 4 (.bool false) rfl rfl (by kernel_rfl) (by kernel_rfl) (by kernel_rfl) (fun _ _ _ h => h) (fun _ _ _ w hSw => exec_neV (a := lookF f (kx, ky)) rfl rfl) hHeld ?_
          simp only [Act.put, List.setIfInBounds_toArray, List.set_cons_zero, List.set_cons_succ]
          refine h_take 19 (some 204) (Op.pick (Operand.tmp 196) (Operand.const (Value.bool true)) (Operand.tmp 203)) 4 ?v62 rfl rfl (by kernel_rfl) (by kernel_rfl) (by kernel_rfl) (fun _ _ _ h => h) ?hy62 hHeld ?_
          case hy62 => (intro _ _ _ w hSw; have hcs := KS _ hSw; go_simp; try with_reducible rfl)
          simp only [Act.put, List.setIfInBounds_toArray, List.set_cons_zero, List.set_cons_succ]
          refine wpAnyH_done (by kernel_rfl) ?_ _
          have HN : Hid (GameIn w p B q' N' rp rB rq' R' W' f f g g y7 ∧ StoreIn p' B' f y7) := ⟨hG.still k7, hT.still k7⟩
          clear hHeld KS hk4 k4 hk5 k5 hk6 k6 hk7 k7 hG hT HG hK k3
          go_wp2
          go_roundw
          case rel => exact ⟨j + 1, by go_num, by omega, HN.out⟩
          case measure => simp [intOf]; omega
        · obtain rfl : j = 55 := by omega
          have HR : Hid (Kept (fun _ => False) w y0) := HG.out.1.kept
          clear HG
          go_wp2
          go_meet
          case rel => exact HR.out
    case rest =>
      as_aux_lemma =>
      have hK := hcut.out
      clear hcut H1
      have R9 := runs_w wc
      go_wp2_with fail
      refine R9.mono ?_
      rintro e y1 ⟨rfl, hk1⟩
      have HZ := hK.thru hk1
      clear R9 hK hk1
      go_wp2
      go_ret
      exact ⟨rfl, HZ⟩
end Go.Proofs.Ytehifngelkenaaa
