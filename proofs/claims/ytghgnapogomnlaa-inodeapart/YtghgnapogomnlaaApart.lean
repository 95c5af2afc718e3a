/- What is done to one inode changes no other; one that isn't there takes nothing; no conditions. -/
import Derived.Test.YtghgnapogomnlaaApartF
import Derived.Deep.CutBlock
namespace Go.Proofs.Ytghgnapogomnlaa
open Go.RowKit
set_option maxRecDepth 100000
set_option linter.unusedSimpArgs false

set_option maxHeartbeats 4000000 in
theorem apart_law (ao : Option Addr) (len cap lb off : Nat) (Q : Nat → Q5) (hao : 0 < len → ao = some ⟨lb, off, none⟩) (i : Int) (w : World) (hc : ∀ i, i < len → QAt w lb (off + i * 5) (Q i)) :
    Calls Try.prog 7 #[.slice ao len cap, .int .i64 i] w fun e w' => e = .returned (.bool true) ∧ Kept (fun _ => False) w w' := by
  have HC : Hid (∀ i, i < len → QAt w lb (off + i * 5) (Q i)) := hc
  clear hc
  go_enter Try.func7, Try.ntmps7
  go_wp2_with fail
  refine (side_new w).mono ?_
  rintro e w1 ⟨T, p, B, q, N, rfl, h1, hT⟩
  have H0 : Hid (SideIn w T p B q N (aT 0) w1) := h1
  clear h1
  go_wp2_with fail
  go_loopw [6, 7, 8] (fun v _ _ wr => ∃ k : Nat, v = .int .i64 k ∧ k ≤ 3 ∧ Hid (SideIn w T p B q N (aT k) wr)) (fun v _ _ _ => 3 - (intOf v).toNat)
  case atStart => exact ⟨0, rfl, by omega, H0.out⟩
  case round =>
    obtain ⟨k, rfl, hk, HH⟩ := hrel
    clear H0
    by_cases hlt : k < 3
    · have t1 : (k : Int) < 3 := by omega
      have c1 := HH.out.t
      go_wp2_with fail
      refine (side_alloc HH.out 2).mono ?_
      rintro e w2 ⟨rfl, h2, -⟩
      have HN : Hid (SideIn w T p B q N (aT (k + 1)) w2) := h2
      rw [show allocV (allocA f0 (aT k)) = .tuple #[.int .i64 ((k : Int) + 1), .bool true] by rw [aT_at (by omega)]; unfold allocV; rw [if_pos (by omega), decide_eq_true (by omega)]]
      clear h2 c1 HH
      go_wp2
      go_roundw
      case rel => exact ⟨k + 1, by go_num, by omega, HN.out⟩
      case measure => simp [intOf]; omega
    · obtain rfl : k = 3 := by omega
      have c1 := HH.out.t
      go_wp2_with fail
      refine (side_write HH.out 2 0 stays (aT_size (by omega) 2)).mono ?_
      rintro e w2 ⟨rfl, h2, -⟩
      replace h2 : SideIn w T p B q N s4 w2 := h2
      rw [s4_ans]
      clear c1 HH
      have c1 := h2.t
      go_wp2_with fail
      refine (side_change h2 2 3 1).mono ?_
      rintro e w3 ⟨rfl, h3, -⟩
      rw [s5_ans]
      have H0 : Hid (SideIn w T p B q N s5 w3 ∧ ApF s5) := ⟨h3, ap_new⟩
      clear c1 h2 h3
      clear hlt hk
      go_upto_block 2 with fail
      go_cut [9, 10] from 43 to 140 (fun _ _ wx => ∃ g', Hid (SideIn w T p B q N g' wx ∧ ApF g'))
      case first =>
        go_wp2_with fail
        go_loopw [9, 10] (fun v _ wr => ∃ (r : Nat) (g : VwF), v = .int .i64 r ∧ r ≤ len ∧ r ≤ 20 ∧ Hid (SideIn w T p B q N g wr ∧ ApF g)) (fun v _ _ => 20 - (intOf v).toNat)
        case atStart => exact ⟨0, _, rfl, by omega, by omega, H0.out⟩
        case round =>
          obtain ⟨r, g, rfl, hr1, hr2, HH⟩ := hrel
          clear H0
          by_cases hlt : r < len ∧ r < 20
          · obtain ⟨hl1, hl2⟩ := hlt
            have t1 : (r : Int) < (len : Int) := by omega
            have t2 : (r : Int) < 20 := by omega
            have h0 := hao (by omega)
            subst h0
            have hq0 := HC.out r hl1
            have hlb : lb < w.heap.size := World.block_lt_of_cell? w _ hq0.1
            have hlN : ¬ lb = N := by have := HH.out.1.nN; omega
            obtain ⟨⟨qk, qi, qa, qb, qd⟩, hqe⟩ : ∃ y, Q r = y := ⟨_, rfl⟩
            rw [hqe] at hq0
            obtain ⟨e0, e1, e2, e3, e4⟩ := hq0.still HH.out.1.kept
            simp only at e0 e1 e2 e3 e4
            have W1 := within_any qi 0 1 (by omega) (by omega) (by omega) wr
            obtain ⟨z, hz, hz2⟩ : ∃ z, (0 : Int) + qi % (1 - 0 + 1) = z ∧ (z = 0 ∨ z = 1) := ⟨_, rfl, by omega⟩
            rw [hz] at W1
            clear hz hqe hq0
            go_wp2_with fail
            refine W1.mono ?_
            rintro e w2 ⟨rfl, hw2⟩
            have hw2' := hw2.symm
            subst hw2'
            clear W1
            obtain ⟨j, hj, hj2⟩ : ∃ j, (1 : Int) + 2 * z = j ∧ (j = 1 ∨ j = 3) := ⟨_, rfl, by omega⟩
            go_upto_block 4 with fail
            try rw [hj]
            clear hj hz2
            have hj3 : j ≠ 2 := by omega
            go_cut [9] from 66 to 118 (fun v wx => v = .int .i64 r ∧ ∃ g', Hid (SideIn w T p B q N g' wx ∧ ApF g'))
            case first =>
              have hs := HH.out.1
              have ha := HH.out.2
              have KS : ∀ w', Kept (fun n => n = N) wr w' → (w'.cell? ⟨T, 1, none⟩ = some (.pointer (some ⟨q, 0, none⟩)) ∧ w'.cell? ⟨lb, off + r * 5 + 2, none⟩ = some (.int .i64 qa) ∧ w'.cell? ⟨lb, off + r * 5 + 3, none⟩ = some (.int .i64 qb) ∧ w'.cell? ⟨lb, off + r * 5 + 4, none⟩ = some (.int .i64 qd)) :=
                fun w' hk' => ⟨hk'.cell hs.t hs.tn, hk'.cell e2 hlN, hk'.cell e3 hlN, hk'.cell e4 hlN⟩
              by_cases h2 : qk = 2
              · subst h2
                as_aux_lemma =>
                go_wp2_with fail
                refine wp_region_held_drew (S := fun w' => Kept (fun n => n = N) wr w') (by kernel_rfl) ((Kept.refl _ _).drew) (fun hHeld => ?_)
                refine h_take 0 (some 84) (Op.move (Operand.tmp 5)) 35 ?v1 rfl rfl (by kernel_rfl) (by kernel_rfl) (by kernel_rfl) (fun _ _ _ h => h) ?hy1 hHeld ?_
                case hy1 => (intro _ _ _ w hSw; have hcs := KS _ hSw; go_simp; try with_reducible rfl)
                simp only [Act.put, List.setIfInBounds_toArray, List.set_cons_zero, List.set_cons_succ]
                refine h_take 1 (some 85) (Op.nilCheck (Operand.tmp 84)) 0 ?v2 rfl rfl (by kernel_rfl) (by kernel_rfl) (by kernel_rfl) (fun _ _ _ h => h) ?hy2 hHeld ?_
                case hy2 => (intro _ _ _ w hSw; have hcs := KS _ hSw; go_simp; try with_reducible rfl)
                simp only [Act.put, List.setIfInBounds_toArray, List.set_cons_zero, List.set_cons_succ]
                refine h_take 2 (some 86) (Op.fieldAddr 42 (Operand.tmp 85) 1) 0 ?v3 rfl rfl (by kernel_rfl) (by kernel_rfl) (by kernel_rfl) (fun _ _ _ h => h) ?hy3 hHeld ?_
                case hy3 => (intro _ _ _ w hSw; have hcs := KS _ hSw; go_simp; try with_reducible rfl)
                simp only [Act.put, List.setIfInBounds_toArray, List.set_cons_zero, List.set_cons_succ]
                refine h_take 3 (some 87) (Op.load 24 (Operand.tmp 86)) 24 ?v4 rfl rfl (by kernel_rfl) (by kernel_rfl) (by kernel_rfl) (fun _ _ _ h => h) ?hy4 hHeld ?_
                case hy4 => (intro _ _ _ w hSw; have hcs := KS _ hSw; go_simp; try with_reducible rfl)
                simp only [Act.put, List.setIfInBounds_toArray, List.set_cons_zero, List.set_cons_succ]
                refine h_take 4 (some 88) (Op.move (Operand.tmp 10)) 3 ?v5 rfl rfl (by kernel_rfl) (by kernel_rfl) (by kernel_rfl) (fun _ _ _ h => h) ?hy5 hHeld ?_
                case hy5 => (intro _ _ _ w hSw; have hcs := KS _ hSw; go_simp; try with_reducible rfl)
                simp only [Act.put, List.setIfInBounds_toArray, List.set_cons_zero, List.set_cons_succ]
                refine h_take 5 (some 89) (Op.move (Operand.tmp 0)) 34 ?v6 rfl rfl (by kernel_rfl) (by kernel_rfl) (by kernel_rfl) (fun _ _ _ h => h) ?hy6 hHeld ?_
                case hy6 => (intro _ _ _ w hSw; have hcs := KS _ hSw; go_simp; try with_reducible rfl)
                simp only [Act.put, List.setIfInBounds_toArray, List.set_cons_zero, List.set_cons_succ]
                refine h_take 6 (some 90) (Op.move (Operand.tmp 9)) 3 ?v7 rfl rfl (by kernel_rfl) (by kernel_rfl) (by kernel_rfl) (fun _ _ _ h => h) ?hy7 hHeld ?_
                case hy7 => (intro _ _ _ w hSw; have hcs := KS _ hSw; go_simp; try with_reducible rfl)
                simp only [Act.put, List.setIfInBounds_toArray, List.set_cons_zero, List.set_cons_succ]
                refine h_take 7 (some 91) (Op.indexAddr 34 (Operand.tmp 89) (Operand.tmp 90)) 0 ?v8 rfl rfl (by kernel_rfl) (by kernel_rfl) (by kernel_rfl) (fun _ _ _ h => h) ?hy8 hHeld ?_
                case hy8 => (intro _ _ _ w hSw; have hcs := KS _ hSw; go_simp; try with_reducible rfl)
                simp only [Act.put, List.setIfInBounds_toArray, List.set_cons_zero, List.set_cons_succ]
                refine h_take 8 (some 92) (Op.fieldAddr 38 (Operand.tmp 91) 2) 0 ?v9 rfl rfl (by kernel_rfl) (by kernel_rfl) (by kernel_rfl) (fun _ _ _ h => h) ?hy9 hHeld ?_
                case hy9 => (intro _ _ _ w hSw; have hcs := KS _ hSw; go_simp; try with_reducible rfl)
                simp only [Act.put, List.setIfInBounds_toArray, List.set_cons_zero, List.set_cons_succ]
                refine h_take 9 (some 93) (Op.load 3 (Operand.tmp 92)) 3 ?v10 rfl rfl (by kernel_rfl) (by kernel_rfl) (by kernel_rfl) (fun _ _ _ h => h) ?hy10 hHeld ?_
                case hy10 => (intro _ _ _ w hSw; have hcs := KS _ hSw; go_simp; try with_reducible rfl)
                simp only [Act.put, List.setIfInBounds_toArray, List.set_cons_zero, List.set_cons_succ]
                refine h_step 10 (some 94) (Op.call { callee := Callee.value (Operand.func 20), args := #[Operand.tmp 93, Operand.const (Value.int IntKind.i64 0), Operand.const (Value.int IntKind.i64 3)], argTypes := #[3, 3, 3] }) 3 rfl rfl (by kernel_rfl) (fun _ _ _ K hK => ?_)
                go_simp
                refine (within_any qa 0 3 (by omega) (by omega) (by omega) _).mono ?_
                rintro e w3 ⟨rfl, hw3⟩
                subst hw3
                go_wp2_with fail
                refine hK.out _ _ ((Kept.refl _ wr).drew) (fun hHeld => ?_)
                clear hK K
                try simp only [Act.put, List.setIfInBounds_toArray, List.set_cons_zero, List.set_cons_succ]
                refine h_take 11 (some 95) (Op.binOp BinOp.sub 3 (Operand.tmp 94) (Operand.const (Value.int IntKind.i64 1)) 3) 3 ?v11 rfl rfl (by kernel_rfl) (by kernel_rfl) (by kernel_rfl) (fun _ _ _ h => h) ?hy11 hHeld ?_
                case hy11 => (intro _ _ _ w hSw; have hcs := KS _ hSw; go_simp; try with_reducible rfl)
                simp only [Act.put, List.setIfInBounds_toArray, List.set_cons_zero, List.set_cons_succ]
                refine h_step 12 (some 96) (Op.call { callee := Callee.value (Operand.func 13), args := #[Operand.tmp 87, Operand.tmp 88, Operand.tmp 95, Operand.const (Value.int IntKind.i64 1)], argTypes := #[24, 3, 3, 3] }) 4 rfl rfl (by kernel_rfl) (fun _ _ _ K hK => ?_)
                go_simp
                refine (side_change (hs.still (Kept.refl _ wr).drew) j _ 1).mono ?_
                rintro e w4 ⟨rfl, hs4, hk4⟩
                replace hk4 : Kept (fun n => n = N) wr w4 := (Kept.refl _ wr).drew.trans hk4 (fun _ _ e => e)
                go_wp2_with fail
                refine hK.out _ _ (hk4) (fun hHeld => ?_)
                clear hK K
                try simp only [Act.put, List.setIfInBounds_toArray, List.set_cons_zero, List.set_cons_succ]
                refine wpAnyH_done (by kernel_rfl) ?_ _
                have HZ : Hid (∃ g', Hid (SideIn w T p B q N g' w4 ∧ ApF g')) := ⟨_, hs4, ha.change hj2 _ _⟩
                clear hHeld KS hk4 hs4 hs ha HH
                go_wp2
                go_meet
                case rel => exact ⟨rfl, HZ.out⟩
              by_cases h4 : qk = 4
              · subst h4
                as_aux_lemma =>
                go_wp2_with fail
                refine wp_region_held_drew (S := fun w' => Kept (fun n => n = N) wr w') (by kernel_rfl) ((Kept.refl _ _).drew) (fun hHeld => ?_)
                refine h_take 0 (some 99) (Op.move (Operand.tmp 5)) 35 ?v12 rfl rfl (by kernel_rfl) (by kernel_rfl) (by kernel_rfl) (fun _ _ _ h => h) ?hy12 hHeld ?_
                case hy12 => (intro _ _ _ w hSw; have hcs := KS _ hSw; go_simp; try with_reducible rfl)
                simp only [Act.put, List.setIfInBounds_toArray, List.set_cons_zero, List.set_cons_succ]
                refine h_take 1 (some 100) (Op.nilCheck (Operand.tmp 99)) 0 ?v13 rfl rfl (by kernel_rfl) (by kernel_rfl) (by kernel_rfl) (fun _ _ _ h => h) ?hy13 hHeld ?_
                case hy13 => (intro _ _ _ w hSw; have hcs := KS _ hSw; go_simp; try with_reducible rfl)
                simp only [Act.put, List.setIfInBounds_toArray, List.set_cons_zero, List.set_cons_succ]
                refine h_take 2 (some 101) (Op.fieldAddr 42 (Operand.tmp 100) 1) 0 ?v14 rfl rfl (by kernel_rfl) (by kernel_rfl) (by kernel_rfl) (fun _ _ _ h => h) ?hy14 hHeld ?_
                case hy14 => (intro _ _ _ w hSw; have hcs := KS _ hSw; go_simp; try with_reducible rfl)
                simp only [Act.put, List.setIfInBounds_toArray, List.set_cons_zero, List.set_cons_succ]
                refine h_take 3 (some 102) (Op.load 24 (Operand.tmp 101)) 24 ?v15 rfl rfl (by kernel_rfl) (by kernel_rfl) (by kernel_rfl) (fun _ _ _ h => h) ?hy15 hHeld ?_
                case hy15 => (intro _ _ _ w hSw; have hcs := KS _ hSw; go_simp; try with_reducible rfl)
                simp only [Act.put, List.setIfInBounds_toArray, List.set_cons_zero, List.set_cons_succ]
                refine h_take 4 (some 103) (Op.move (Operand.tmp 10)) 3 ?v16 rfl rfl (by kernel_rfl) (by kernel_rfl) (by kernel_rfl) (fun _ _ _ h => h) ?hy16 hHeld ?_
                case hy16 => (intro _ _ _ w hSw; have hcs := KS _ hSw; go_simp; try with_reducible rfl)
                simp only [Act.put, List.setIfInBounds_toArray, List.set_cons_zero, List.set_cons_succ]
                refine h_take 5 (some 104) (Op.move (Operand.tmp 0)) 34 ?v17 rfl rfl (by kernel_rfl) (by kernel_rfl) (by kernel_rfl) (fun _ _ _ h => h) ?hy17 hHeld ?_
                case hy17 => (intro _ _ _ w hSw; have hcs := KS _ hSw; go_simp; try with_reducible rfl)
                simp only [Act.put, List.setIfInBounds_toArray, List.set_cons_zero, List.set_cons_succ]
                refine h_take 6 (some 105) (Op.move (Operand.tmp 9)) 3 ?v18 rfl rfl (by kernel_rfl) (by kernel_rfl) (by kernel_rfl) (fun _ _ _ h => h) ?hy18 hHeld ?_
                case hy18 => (intro _ _ _ w hSw; have hcs := KS _ hSw; go_simp; try with_reducible rfl)
                simp only [Act.put, List.setIfInBounds_toArray, List.set_cons_zero, List.set_cons_succ]
                refine h_take 7 (some 106) (Op.indexAddr 34 (Operand.tmp 104) (Operand.tmp 105)) 0 ?v19 rfl rfl (by kernel_rfl) (by kernel_rfl) (by kernel_rfl) (fun _ _ _ h => h) ?hy19 hHeld ?_
                case hy19 => (intro _ _ _ w hSw; have hcs := KS _ hSw; go_simp; try with_reducible rfl)
                simp only [Act.put, List.setIfInBounds_toArray, List.set_cons_zero, List.set_cons_succ]
                refine h_take 8 (some 107) (Op.fieldAddr 38 (Operand.tmp 106) 2) 0 ?v20 rfl rfl (by kernel_rfl) (by kernel_rfl) (by kernel_rfl) (fun _ _ _ h => h) ?hy20 hHeld ?_
                case hy20 => (intro _ _ _ w hSw; have hcs := KS _ hSw; go_simp; try with_reducible rfl)
                simp only [Act.put, List.setIfInBounds_toArray, List.set_cons_zero, List.set_cons_succ]
                refine h_take 9 (some 108) (Op.load 3 (Operand.tmp 107)) 3 ?v21 rfl rfl (by kernel_rfl) (by kernel_rfl) (by kernel_rfl) (fun _ _ _ h => h) ?hy21 hHeld ?_
                case hy21 => (intro _ _ _ w hSw; have hcs := KS _ hSw; go_simp; try with_reducible rfl)
                simp only [Act.put, List.setIfInBounds_toArray, List.set_cons_zero, List.set_cons_succ]
                refine h_take 11 (some 110) (Op.move (Operand.tmp 9)) 3 ?v22 rfl rfl (by kernel_rfl) (by kernel_rfl) (by kernel_rfl) (fun _ _ _ h => h) ?hy22 hHeld ?_
                case hy22 => (intro _ _ _ w hSw; have hcs := KS _ hSw; go_simp; try with_reducible rfl)
                simp only [Act.put, List.setIfInBounds_toArray, List.set_cons_zero, List.set_cons_succ]
                refine h_take 12 (some 111) (Op.move (Operand.tmp 0)) 34 ?v23 rfl rfl (by kernel_rfl) (by kernel_rfl) (by kernel_rfl) (fun _ _ _ h => h) ?hy23 hHeld ?_
                case hy23 => (intro _ _ _ w hSw; have hcs := KS _ hSw; go_simp; try with_reducible rfl)
                simp only [Act.put, List.setIfInBounds_toArray, List.set_cons_zero, List.set_cons_succ]
                refine h_take 13 (some 112) (Op.move (Operand.tmp 9)) 3 ?v24 rfl rfl (by kernel_rfl) (by kernel_rfl) (by kernel_rfl) (fun _ _ _ h => h) ?hy24 hHeld ?_
                case hy24 => (intro _ _ _ w hSw; have hcs := KS _ hSw; go_simp; try with_reducible rfl)
                simp only [Act.put, List.setIfInBounds_toArray, List.set_cons_zero, List.set_cons_succ]
                refine h_take 14 (some 113) (Op.indexAddr 34 (Operand.tmp 111) (Operand.tmp 112)) 0 ?v25 rfl rfl (by kernel_rfl) (by kernel_rfl) (by kernel_rfl) (fun _ _ _ h => h) ?hy25 hHeld ?_
                case hy25 => (intro _ _ _ w hSw; have hcs := KS _ hSw; go_simp; try with_reducible rfl)
                simp only [Act.put, List.setIfInBounds_toArray, List.set_cons_zero, List.set_cons_succ]
                refine h_take 15 (some 114) (Op.fieldAddr 38 (Operand.tmp 113) 4) 0 ?v26 rfl rfl (by kernel_rfl) (by kernel_rfl) (by kernel_rfl) (fun _ _ _ h => h) ?hy26 hHeld ?_
                case hy26 => (intro _ _ _ w hSw; have hcs := KS _ hSw; go_simp; try with_reducible rfl)
                simp only [Act.put, List.setIfInBounds_toArray, List.set_cons_zero, List.set_cons_succ]
                refine h_take 16 (some 115) (Op.load 3 (Operand.tmp 114)) 3 ?v27 rfl rfl (by kernel_rfl) (by kernel_rfl) (by kernel_rfl) (fun _ _ _ h => h) ?hy27 hHeld ?_
                case hy27 => (intro _ _ _ w hSw; have hcs := KS _ hSw; go_simp; try with_reducible rfl)
                simp only [Act.put, List.setIfInBounds_toArray, List.set_cons_zero, List.set_cons_succ]
                refine h_step 10 (some 109) (Op.call { callee := Callee.value (Operand.func 20), args := #[Operand.tmp 108, Operand.const (Value.int IntKind.i64 0), Operand.const (Value.int IntKind.i64 9)], argTypes := #[3, 3, 3] }) 3 rfl rfl (by kernel_rfl) (fun _ _ _ K hK => ?_)
                go_simp
                refine (within_any qa 0 9 (by omega) (by omega) (by omega) _).mono ?_
                rintro e w3 ⟨rfl, hw3⟩
                subst hw3
                go_wp2_with fail
                refine hK.out _ _ ((Kept.refl _ wr).drew) (fun hHeld => ?_)
                clear hK K
                try simp only [Act.put, List.setIfInBounds_toArray, List.set_cons_zero, List.set_cons_succ]
                refine h_step 17 (some 116) (Op.call { callee := Callee.value (Operand.func 20), args := #[Operand.tmp 115, Operand.const (Value.int IntKind.i64 0), Operand.const (Value.int IntKind.i64 30)], argTypes := #[3, 3, 3] }) 3 rfl rfl (by kernel_rfl) (fun _ _ _ K hK => ?_)
                go_simp
                refine (within_any qd 0 30 (by omega) (by omega) (by omega) _).mono ?_
                rintro e w4 ⟨rfl, hw4⟩
                subst hw4
                go_wp2_with fail
                refine hK.out _ _ ((Kept.refl _ wr).drew) (fun hHeld => ?_)
                clear hK K
                try simp only [Act.put, List.setIfInBounds_toArray, List.set_cons_zero, List.set_cons_succ]
                refine h_step 18 (some 117) (Op.call { callee := Callee.value (Operand.func 19), args := #[Operand.tmp 110, Operand.tmp 116], argTypes := #[3, 3] }) 9 rfl rfl (by kernel_rfl) (fun _ _ _ K hK => ?_)
                go_simp
                refine (text_w r _ (by omega) (by omega) _).mono ?_
                rintro e w5 ⟨d, rfl, -, hk5⟩
                replace hk5 : Kept (fun _ => False) wr w5 := (Kept.refl _ wr).drew.thru hk5
                go_wp2_with fail
                refine hK.out _ _ (hk5.mono (fun _ _ e => e.elim)) (fun hHeld => ?_)
                clear hK K
                try simp only [Act.put, List.setIfInBounds_toArray, List.set_cons_zero, List.set_cons_succ]
                refine h_step 19 (some 118) (Op.call { callee := Callee.value (Operand.func 11), args := #[Operand.tmp 102, Operand.tmp 103, Operand.tmp 109, Operand.tmp 117], argTypes := #[24, 3, 3, 9] }) 3 rfl rfl (by kernel_rfl) (fun _ _ _ K hK => ?_)
                go_simp
                refine (side_write (hs.still hk5) j _ d (ha.size j)).mono ?_
                rintro e w6 ⟨rfl, hs6, hk6⟩
                replace hk6 : Kept (fun n => n = N) wr w6 := (hk5.mono (fun _ _ e => e.elim)).trans hk6 (fun _ _ e => e)
                go_wp2_with fail
                refine hK.out _ _ (hk6) (fun hHeld => ?_)
                clear hK K
                try simp only [Act.put, List.setIfInBounds_toArray, List.set_cons_zero, List.set_cons_succ]
                refine wpAnyH_done (by kernel_rfl) ?_ _
                have HZ : Hid (∃ g', Hid (SideIn w T p B q N g' w6 ∧ ApF g')) := ⟨_, hs6, ha.write hj2 _ _⟩
                clear hHeld KS hk5 hk6 hs6 hs ha HH
                go_wp2
                go_meet
                case rel => exact ⟨rfl, HZ.out⟩
              ·
                as_aux_lemma =>
                go_wp2_with fail
                refine wp_region_held_drew (S := fun w' => Kept (fun n => n = N) wr w') (by kernel_rfl) ((Kept.refl _ _).drew) (fun hHeld => ?_)
                refine h_take 0 (some 66) (Op.move (Operand.tmp 5)) 35 ?v28 rfl rfl (by kernel_rfl) (by kernel_rfl) (by kernel_rfl) (fun _ _ _ h => h) ?hy28 hHeld ?_
                case hy28 => (intro _ _ _ w hSw; have hcs := KS _ hSw; go_simp; try with_reducible rfl)
                simp only [Act.put, List.setIfInBounds_toArray, List.set_cons_zero, List.set_cons_succ]
                refine h_take 1 (some 67) (Op.nilCheck (Operand.tmp 66)) 0 ?v29 rfl rfl (by kernel_rfl) (by kernel_rfl) (by kernel_rfl) (fun _ _ _ h => h) ?hy29 hHeld ?_
                case hy29 => (intro _ _ _ w hSw; have hcs := KS _ hSw; go_simp; try with_reducible rfl)
                simp only [Act.put, List.setIfInBounds_toArray, List.set_cons_zero, List.set_cons_succ]
                refine h_take 2 (some 68) (Op.fieldAddr 42 (Operand.tmp 67) 1) 0 ?v30 rfl rfl (by kernel_rfl) (by kernel_rfl) (by kernel_rfl) (fun _ _ _ h => h) ?hy30 hHeld ?_
                case hy30 => (intro _ _ _ w hSw; have hcs := KS _ hSw; go_simp; try with_reducible rfl)
                simp only [Act.put, List.setIfInBounds_toArray, List.set_cons_zero, List.set_cons_succ]
                refine h_take 3 (some 69) (Op.load 24 (Operand.tmp 68)) 24 ?v31 rfl rfl (by kernel_rfl) (by kernel_rfl) (by kernel_rfl) (fun _ _ _ h => h) ?hy31 hHeld ?_
                case hy31 => (intro _ _ _ w hSw; have hcs := KS _ hSw; go_simp; try with_reducible rfl)
                simp only [Act.put, List.setIfInBounds_toArray, List.set_cons_zero, List.set_cons_succ]
                refine h_take 4 (some 70) (Op.move (Operand.tmp 10)) 3 ?v32 rfl rfl (by kernel_rfl) (by kernel_rfl) (by kernel_rfl) (fun _ _ _ h => h) ?hy32 hHeld ?_
                case hy32 => (intro _ _ _ w hSw; have hcs := KS _ hSw; go_simp; try with_reducible rfl)
                simp only [Act.put, List.setIfInBounds_toArray, List.set_cons_zero, List.set_cons_succ]
                refine h_take 5 (some 71) (Op.move (Operand.tmp 0)) 34 ?v33 rfl rfl (by kernel_rfl) (by kernel_rfl) (by kernel_rfl) (fun _ _ _ h => h) ?hy33 hHeld ?_
                case hy33 => (intro _ _ _ w hSw; have hcs := KS _ hSw; go_simp; try with_reducible rfl)
                simp only [Act.put, List.setIfInBounds_toArray, List.set_cons_zero, List.set_cons_succ]
                refine h_take 6 (some 72) (Op.move (Operand.tmp 9)) 3 ?v34 rfl rfl (by kernel_rfl) (by kernel_rfl) (by kernel_rfl) (fun _ _ _ h => h) ?hy34 hHeld ?_
                case hy34 => (intro _ _ _ w hSw; have hcs := KS _ hSw; go_simp; try with_reducible rfl)
                simp only [Act.put, List.setIfInBounds_toArray, List.set_cons_zero, List.set_cons_succ]
                refine h_take 7 (some 73) (Op.indexAddr 34 (Operand.tmp 71) (Operand.tmp 72)) 0 ?v35 rfl rfl (by kernel_rfl) (by kernel_rfl) (by kernel_rfl) (fun _ _ _ h => h) ?hy35 hHeld ?_
                case hy35 => (intro _ _ _ w hSw; have hcs := KS _ hSw; go_simp; try with_reducible rfl)
                simp only [Act.put, List.setIfInBounds_toArray, List.set_cons_zero, List.set_cons_succ]
                refine h_take 8 (some 74) (Op.fieldAddr 38 (Operand.tmp 73) 2) 0 ?v36 rfl rfl (by kernel_rfl) (by kernel_rfl) (by kernel_rfl) (fun _ _ _ h => h) ?hy36 hHeld ?_
                case hy36 => (intro _ _ _ w hSw; have hcs := KS _ hSw; go_simp; try with_reducible rfl)
                simp only [Act.put, List.setIfInBounds_toArray, List.set_cons_zero, List.set_cons_succ]
                refine h_take 9 (some 75) (Op.load 3 (Operand.tmp 74)) 3 ?v37 rfl rfl (by kernel_rfl) (by kernel_rfl) (by kernel_rfl) (fun _ _ _ h => h) ?hy37 hHeld ?_
                case hy37 => (intro _ _ _ w hSw; have hcs := KS _ hSw; go_simp; try with_reducible rfl)
                simp only [Act.put, List.setIfInBounds_toArray, List.set_cons_zero, List.set_cons_succ]
                refine h_take 10 (some 76) (Op.move (Operand.tmp 0)) 34 ?v38 rfl rfl (by kernel_rfl) (by kernel_rfl) (by kernel_rfl) (fun _ _ _ h => h) ?hy38 hHeld ?_
                case hy38 => (intro _ _ _ w hSw; have hcs := KS _ hSw; go_simp; try with_reducible rfl)
                simp only [Act.put, List.setIfInBounds_toArray, List.set_cons_zero, List.set_cons_succ]
                refine h_take 11 (some 77) (Op.move (Operand.tmp 9)) 3 ?v39 rfl rfl (by kernel_rfl) (by kernel_rfl) (by kernel_rfl) (fun _ _ _ h => h) ?hy39 hHeld ?_
                case hy39 => (intro _ _ _ w hSw; have hcs := KS _ hSw; go_simp; try with_reducible rfl)
                simp only [Act.put, List.setIfInBounds_toArray, List.set_cons_zero, List.set_cons_succ]
                refine h_take 12 (some 78) (Op.indexAddr 34 (Operand.tmp 76) (Operand.tmp 77)) 0 ?v40 rfl rfl (by kernel_rfl) (by kernel_rfl) (by kernel_rfl) (fun _ _ _ h => h) ?hy40 hHeld ?_
                case hy40 => (intro _ _ _ w hSw; have hcs := KS _ hSw; go_simp; try with_reducible rfl)
                simp only [Act.put, List.setIfInBounds_toArray, List.set_cons_zero, List.set_cons_succ]
                refine h_take 13 (some 79) (Op.fieldAddr 38 (Operand.tmp 78) 3) 0 ?v41 rfl rfl (by kernel_rfl) (by kernel_rfl) (by kernel_rfl) (fun _ _ _ h => h) ?hy41 hHeld ?_
                case hy41 => (intro _ _ _ w hSw; have hcs := KS _ hSw; go_simp; try with_reducible rfl)
                simp only [Act.put, List.setIfInBounds_toArray, List.set_cons_zero, List.set_cons_succ]
                refine h_take 14 (some 80) (Op.load 3 (Operand.tmp 79)) 3 ?v42 rfl rfl (by kernel_rfl) (by kernel_rfl) (by kernel_rfl) (fun _ _ _ h => h) ?hy42 hHeld ?_
                case hy42 => (intro _ _ _ w hSw; have hcs := KS _ hSw; go_simp; try with_reducible rfl)
                simp only [Act.put, List.setIfInBounds_toArray, List.set_cons_zero, List.set_cons_succ]
                refine h_step 15 (some 81) (Op.call { callee := Callee.value (Operand.func 12), args := #[Operand.tmp 69, Operand.tmp 70, Operand.tmp 75, Operand.tmp 80], argTypes := #[24, 3, 3, 3] }) 9 rfl rfl (by kernel_rfl) (fun _ _ _ K hK => ?_)
                go_simp
                refine (side_read (hs.still (Kept.refl _ wr).drew) j _ _ (ha.size j)).mono ?_
                rintro e w4 ⟨rfl, hs4, hk4⟩
                replace hk4 : Kept (fun n => n = N) wr w4 := (Kept.refl _ wr).drew.trans hk4 (fun _ _ e => e)
                go_wp2_with fail
                refine hK.out _ _ (hk4) (fun hHeld => ?_)
                clear hK K
                try simp only [Act.put, List.setIfInBounds_toArray, List.set_cons_zero, List.set_cons_succ]
                refine wpAnyH_done (by kernel_rfl) ?_ _
                have HZ : Hid (∃ g', Hid (SideIn w T p B q N g' w4 ∧ ApF g')) := ⟨_, hs4, ha.find _⟩
                clear hHeld KS hk4 hs4 hs ha HH
                go_wp2
                go_meet
                case rel => exact ⟨rfl, HZ.out⟩
            case rest =>
              as_aux_lemma =>
              obtain ⟨rfl, g', HG⟩ := hcut
              clear HH e0 e1 e2 e3 e4 hj3 hj2
              have hl := stays_list
              have c1 := HG.out.1.t
              go_wp2_with fail
              refine (side_read HG.out.1 2 0 99 (HG.out.2.size 2)).mono ?_
              rintro e w3 ⟨rfl, h3, -⟩
              have ha3 := HG.out.2.find 2
              rw [HG.out.2.two, stays_read]
              clear HG c1
              have c1 := h3.t
              go_wp2_with fail
              refine (side_links h3 2).mono ?_
              rintro e w4 ⟨rfl, h4, -⟩
              have ha4 := ha3.find 2
              rw [ha3.two, show S2.n1 = 3 from rfl]
              clear h3 ha3 c1
              have c1 := h4.t
              go_wp2_with fail
              refine (side_type h4 2).mono ?_
              rintro e w5 ⟨rfl, h5, -⟩
              have ha5 := ha4.find 2
              rw [ha4.two, show S2.n0 = 2 from rfl]
              have HN : Hid (SideIn w T p B q N (findT (findT (findT g' 2) 2) 2) w5 ∧ ApF (findT (findT (findT g' 2) 2) 2)) := ⟨h5, ha5⟩
              clear h4 ha4 c1 h5 ha5
              go_wp2
              go_roundw
              case rel => exact ⟨r + 1, _, by go_num, by omega, by omega, HN.out⟩
              case measure => simp [intOf]; omega
          · by_cases t1 : (r : Int) < (len : Int)
            · have t2 : ¬ (r : Int) < 20 := by omega
              clear hlt
              go_wp2
              go_meet
              case rel => exact ⟨_, HH.out⟩
            · clear hlt
              go_wp2
              go_meet
              case rel => exact ⟨_, HH.out⟩
      case rest =>
        as_aux_lemma =>
        obtain ⟨g1, HH⟩ := hcut
        obtain ⟨z, hz, hz1, hz2⟩ : ∃ z, (0 : Int) + i % (30 - 0 + 1) = z ∧ 0 ≤ z ∧ z ≤ 30 := ⟨_, rfl, by omega, by omega⟩
        have W1 := within_any i 0 30 (by omega) (by omega) (by omega) wc
        rw [hz] at W1
        clear hz
        go_wp2_with fail
        refine W1.mono ?_
        rintro e w2 ⟨rfl, hw2⟩
        have hw2' := hw2.symm
        subst hw2'
        clear W1
        obtain ⟨o, ho⟩ : ∃ o, (4 : Int) + z = o := ⟨_, rfl⟩
        have ho1 : o ≠ 1 ∧ o ≠ 2 ∧ o ≠ 3 := by omega
        have c1 := HH.out.1.t
        go_wp2_with fail
        refine (side_write HH.out.1 o 0 ⟨#[120]⟩ (HH.out.2.size o)).mono ?_
        rintro e w3 ⟨rfl, h3, -⟩
        rw [(write_no _ (HH.out.2.noW ho1.1 ho1.2.1 ho1.2.2 0)).1] at h3
        rw [(write_no _ (HH.out.2.noW ho1.1 ho1.2.1 ho1.2.2 0)).2]
        have ha := HH.out.2.find o
        clear c1 HH
        have c1 := h3.t
        go_wp2_with fail
        refine (side_write h3 0 0 ⟨#[120]⟩ (ha.size 0)).mono ?_
        rintro e w4 ⟨rfl, h4, -⟩
        rw [(write_no _ (ha.noW (by decide) (by decide) (by decide) 0)).1] at h4
        rw [(write_no _ (ha.noW (by decide) (by decide) (by decide) 0)).2]
        replace ha := ha.find 0
        clear c1 h3
        have c1 := h4.t
        go_wp2_with fail
        refine (side_change h4 o 1 1).mono ?_
        rintro e w5 ⟨rfl, h5, -⟩
        rw [change_no _ _ (ha.no ho1.1 ho1.2.1 ho1.2.2)] at h5
        rw [ha.no ho1.1 ho1.2.1 ho1.2.2]
        replace ha := ha.find o
        clear c1 h4
        have c1 := h5.t
        go_wp2_with fail
        refine (side_read h5 o 0 9 (ha.size o)).mono ?_
        rintro e w6 ⟨rfl, h6, -⟩
        rw [ha.none _ ho1.1 ho1.2.1 ho1.2.2, part_zero]
        replace ha := ha.find o
        clear c1 h5
        have c1 := h6.t
        go_wp2_with fail
        refine (side_size h6 o).mono ?_
        rintro e w7 ⟨rfl, h7, -⟩
        rw [ha.none _ ho1.1 ho1.2.1 ho1.2.2, show ((zeroV.s.size : Nat) : Int) = 0 from rfl]
        replace ha := ha.find o
        clear c1 h6
        have c1 := h7.t
        go_wp2_with fail
        refine (side_is h7 0).mono ?_
        rintro e w8 ⟨rfl, h8, -⟩
        rw [ha.no (by decide) (by decide) (by decide)]
        clear c1 h7 ha
        go_wp2_with fail
        refine (runs_w w8).mono ?_
        rintro e w9 ⟨rfl, hk9⟩
        have HK : Hid (Kept (fun _ => False) w w9) := h8.kept.thru hk9
        clear h8 hk9
        go_wp2
        go_ret
        exact ⟨rfl, HK.out⟩
end Go.Proofs.Ytghgnapogomnlaa
