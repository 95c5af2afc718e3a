
/- Pipes don't touch each other; what isn't one is refused; no conditions. -/
import Derived.Test.YtdjdnjngelahjaaPpV
import Derived.Test.YtdjdnjngelahjaaOpenArgs
import Derived.Deep.CutBlock
namespace Go.Proofs.Ytdjdnjngelahjaa
open Go.RowKit
set_option maxRecDepth 100000
set_option linter.unusedSimpArgs false

set_option maxHeartbeats 4000000 in
theorem apart_law (bo : Option Addr) (ln cp mb of : Nat) (A : Nat → QA) (hbo : 0 < ln → bo = some ⟨mb, of, none⟩) (a1 : Int) (w : World)
    (hd : ∀ i, i < ln → QAt w mb (of + i * 4) (A i)) :
    Calls Try.prog 7 #[.slice bo ln cp, .int .i64 a1] w fun e w' => e = .returned (.bool true) ∧ Kept (fun _ => False) w w' := by
  have HD : Hid (∀ i, i < ln → QAt w mb (of + i * 4) (A i)) := hd
  clear hd
  go_enter Try.func7, Try.ntmps7
  go_wp2_with fail
  refine (side_new w).mono ?_
  rintro e w1 ⟨T, p, B, q, N, rfl, h1, hT⟩
  have x1 := h1.t
  go_wp2_with fail
  refine (side_pal (show SideIn _ _ _ _ _ _ (pT 0) _ from h1)).mono ?_
  rintro e w2 ⟨rfl, h2, -⟩
  rw [pT_at (by omega : 0 < 4)]
  have x2 := h2.t
  clear h1 x1
  go_wp2_with fail
  refine (side_pal (show SideIn _ _ _ _ _ _ (pT 1) _ from h2)).mono ?_
  rintro e w3 ⟨rfl, h3, -⟩
  rw [pT_at (by omega : 1 < 4)]
  have x3 := h3.t
  clear h2 x2
  go_wp2_with fail
  refine (side_pwr (show SideIn _ _ _ _ _ _ (pT 2) _ from h3) 0 stays).mono ?_
  rintro e w4 ⟨rfl, h4, -⟩
  rw [ap_ans]
  have H0 : Hid (SideIn w T p B q N (pwrT f0 (pT 2) 0 stays) w4 ∧ ApF (pwrT f0 (pT 2) 0 stays)) := ⟨h4, ap_new⟩
  clear h3 x3 h4
  go_wp2_with fail
  go_loopw [12] (fun v wr => ∃ (r : Nat) (g : VwF), v = .int .i64 r ∧ r ≤ ln ∧ r ≤ 20 ∧ Hid (SideIn w T p B q N g wr ∧ ApF g)) (fun v _ => 20 - (intOf v).toNat)
  case atStart => exact ⟨0, _, rfl, by omega, by omega, H0.out⟩
  case round =>
    clear H0
    obtain ⟨r, g, rfl, hr1, hr2, HH⟩ := hrel
    obtain ⟨z, hz⟩ : ∃ z : Bool, decide ((r : Int) < (ln : Int) ∧ (r : Int) < 20) = z := ⟨_, rfl⟩
    go_upto_region 12 with fail
    go_cut [66] from 59 to 66 (fun v wx => v = .bool z ∧ wx = wr)
    case first =>
      as_aux_lemma =>
      by_cases p1 : (r : Int) < (ln : Int)
      · by_cases p2 : (r : Int) < 20
        · have hz' : z = true := by rw [← hz]; simp [p1, p2]
          subst hz'
          clear hz
          go_wp2
          go_meet
          case rel => exact ⟨rfl, rfl⟩
        · have hz' : z = false := by rw [← hz]; simp [p1, p2]
          subst hz'
          clear hz
          go_wp2
          go_meet
          case rel => exact ⟨rfl, rfl⟩
      · have hz' : z = false := by rw [← hz]; simp [p1]
        subst hz'
        clear hz
        go_wp2
        go_meet
        case rel => exact ⟨rfl, rfl⟩
    case rest =>
      obtain ⟨rfl, hwc⟩ := hcut
      subst hwc
      cases z with
      | true =>
        as_aux_lemma =>
        simp only [decide_eq_true_eq] at hz
        obtain ⟨t1, t2⟩ := hz
        have hl1 : r < ln := by omega
        have h0 := hbo (by omega)
        subst h0
        have hq0 := HD.out r hl1
        obtain ⟨⟨qk, qd, qn, qb⟩, hqe⟩ : ∃ y, A r = y := ⟨_, rfl⟩
        rw [hqe] at hq0
        have hq1 := hq0.still HH.out.1.kept
        clear hqe hq0 hbo
        have e0 := hq1.1
        simp only at e0
        have tN : N ≠ mb := fun e => by
          obtain ⟨es, clock, hb, _⟩ := HH.out.1.v.map
          rw [e] at hb
          simp [World.cell?, hb] at e0
        have KQ : ∀ w', Kept (fun n => n = N) wc w' → (w'.cell? ⟨T, 1, none⟩ = some (.pointer (some ⟨q, 0, none⟩)) ∧ w'.cell? ⟨mb, of + r * 4 + 2, none⟩ = some (.int .i64 qn) ∧ w'.cell? ⟨mb, of + r * 4 + 3, none⟩ = some (.bool qb)) :=
          fun w' hk' => ⟨hk'.cell HH.out.1.t HH.out.1.tn, hk'.cell hq1.2.2.1 (fun e => tN e.symm), hk'.cell hq1.2.2.2 (fun e => tN e.symm)⟩
        by_cases hk2 : qk = 2
        · subst hk2
          as_aux_lemma =>
          obtain ⟨n, hn⟩ : ∃ n : Int, (0 : Int) + qn % (20 - 0 + 1) = n := ⟨_, rfl⟩
          have KS : ∀ w', Kept (fun n => n = N) wc w' → (w'.cell? ⟨T, 1, none⟩ = some (.pointer (some ⟨q, 0, none⟩)) ∧ w'.cell? ⟨mb, of + r * 4 + 2, none⟩ = some (.int .i64 qn)) := fun w' hk' => ⟨(KQ w' hk').1, (KQ w' hk').2.1⟩
          have hix : (0 : Int) ≤ (r : Int) := by omega
          go_wp2_with fail
          refine wp_region_held_drew (S := fun w' => Kept (fun n => n = N) wc w') (by kernel_rfl) ((Kept.refl _ _).drew) (fun hHeld => ?_)
          refine h_take 0 (some 90) (Op.move (Operand.tmp 5)) 22 ?v1 rfl rfl (by kernel_rfl) (by kernel_rfl) (by kernel_rfl) (fun _ _ _ h => h) ?hy1 hHeld ?_
          case hy1 => (intro _ _ _ w hSw; have hcs := KS _ hSw; go_simp; try with_reducible rfl)
          simp only [Act.put, List.setIfInBounds_toArray, List.set_cons_zero, List.set_cons_succ]
          refine h_take 1 (some 91) (Op.nilCheck (Operand.tmp 90)) 0 ?v2 rfl rfl (by kernel_rfl) (by kernel_rfl) (by kernel_rfl) (fun _ _ _ h => h) ?hy2 hHeld ?_
          case hy2 => (intro _ _ _ w hSw; have hcs := KS _ hSw; go_simp; try with_reducible rfl)
          simp only [Act.put, List.setIfInBounds_toArray, List.set_cons_zero, List.set_cons_succ]
          refine h_take 2 (some 92) (Op.fieldAddr 29 (Operand.tmp 91) 1) 0 ?v3 rfl rfl (by kernel_rfl) (by kernel_rfl) (by kernel_rfl) (fun _ _ _ h => h) ?hy3 hHeld ?_
          case hy3 => (intro _ _ _ w hSw; have hcs := KS _ hSw; go_simp; try with_reducible rfl)
          simp only [Act.put, List.setIfInBounds_toArray, List.set_cons_zero, List.set_cons_succ]
          refine h_take 3 (some 93) (Op.load 25 (Operand.tmp 92)) 25 ?v4 rfl rfl (by kernel_rfl) (by kernel_rfl) (by kernel_rfl) (fun _ _ _ h => h) ?hy4 hHeld ?_
          case hy4 => (intro _ _ _ w hSw; have hcs := KS _ hSw; go_simp; try with_reducible rfl)
          simp only [Act.put, List.setIfInBounds_toArray, List.set_cons_zero, List.set_cons_succ]
          refine h_take 4 (some 94) (Op.move (Operand.tmp 8)) 3 ?v5 rfl rfl (by kernel_rfl) (by kernel_rfl) (by kernel_rfl) (fun _ _ _ h => h) ?hy5 hHeld ?_
          case hy5 => (intro _ _ _ w hSw; have hcs := KS _ hSw; go_simp; try with_reducible rfl)
          simp only [Act.put, List.setIfInBounds_toArray, List.set_cons_zero, List.set_cons_succ]
          refine h_take 5 (some 95) (Op.move (Operand.tmp 0)) 40 ?v6 rfl rfl (by kernel_rfl) (by kernel_rfl) (by kernel_rfl) (fun _ _ _ h => h) ?hy6 hHeld ?_
          case hy6 => (intro _ _ _ w hSw; have hcs := KS _ hSw; go_simp; try with_reducible rfl)
          simp only [Act.put, List.setIfInBounds_toArray, List.set_cons_zero, List.set_cons_succ]
          refine h_take 6 (some 96) (Op.move (Operand.tmp 12)) 3 ?v7 rfl rfl (by kernel_rfl) (by kernel_rfl) (by kernel_rfl) (fun _ _ _ h => h) ?hy7 hHeld ?_
          case hy7 => (intro _ _ _ w hSw; have hcs := KS _ hSw; go_simp; try with_reducible rfl)
          simp only [Act.put, List.setIfInBounds_toArray, List.set_cons_zero, List.set_cons_succ]
          refine h_take 7 (some 97) (Op.indexAddr 40 (Operand.tmp 95) (Operand.tmp 96)) 0 ?v8 rfl rfl (by kernel_rfl) (by kernel_rfl) (by kernel_rfl) (fun _ _ _ h => h) ?hy8 hHeld ?_
          case hy8 => (intro _ _ _ w hSw; have hcs := KS _ hSw; go_simp; try with_reducible rfl)
          simp only [Act.put, List.setIfInBounds_toArray, List.set_cons_zero, List.set_cons_succ]
          refine h_take 8 (some 98) (Op.fieldAddr 42 (Operand.tmp 97) 2) 0 ?v9 rfl rfl (by kernel_rfl) (by kernel_rfl) (by kernel_rfl) (fun _ _ _ h => h) ?hy9 hHeld ?_
          case hy9 => (intro _ _ _ w hSw; have hcs := KS _ hSw; go_simp; try with_reducible rfl)
          simp only [Act.put, List.setIfInBounds_toArray, List.set_cons_zero, List.set_cons_succ]
          refine h_take 9 (some 99) (Op.load 3 (Operand.tmp 98)) 3 ?v10 rfl rfl (by kernel_rfl) (by kernel_rfl) (by kernel_rfl) (fun _ _ _ h => h) ?hy10 hHeld ?_
          case hy10 => (intro _ _ _ w hSw; have hcs := KS _ hSw; go_simp; try with_reducible rfl)
          simp only [Act.put, List.setIfInBounds_toArray, List.set_cons_zero, List.set_cons_succ]
          refine h_step 10 (some 100) (Op.call { callee := Callee.value (Operand.func 17), args := #[Operand.tmp 99, Operand.const (Value.int IntKind.i64 0), Operand.const (Value.int IntKind.i64 20)], argTypes := #[3, 3, 3] }) 3 rfl rfl (by kernel_rfl) (fun _ _ _ K hK => ?_)
          go_simp
          refine (within_any qn 0 20 (by omega) (by omega) (by omega) _).mono ?_
          rintro e w3 ⟨rfl, hw3⟩
          subst hw3
          rw [hn]
          have kp3 : Kept (fun _ => False) wc wc.drew := (Kept.refl _ _).drew
          go_wp2_with fail
          refine hK.out _ _ (kp3.mono (fun _ _ e => e.elim)) (fun hHeld => ?_)
          clear hK K
          try simp only [Act.put, List.setIfInBounds_toArray, List.set_cons_zero, List.set_cons_succ]
          refine h_step 11 (some 101) (Op.call { callee := Callee.value (Operand.func 11), args := #[Operand.tmp 93, Operand.tmp 94, Operand.tmp 100], argTypes := #[25, 3, 3] }) 34 rfl rfl (by kernel_rfl) (fun _ _ _ K hK => ?_)
          go_simp
          refine (side_prd (HH.out.1.still kp3) 1 n).mono ?_
          rintro e w4 ⟨rfl, h4, kp4⟩
          have k4 : Kept (fun n => n = N) wc w4 := (kp3.mono (fun _ _ e => e.elim)).trans kp4 (fun _ _ e => e)
          go_wp2_with fail
          refine hK.out _ _ (k4) (fun hHeld => ?_)
          clear hK K
          try simp only [Act.put, List.setIfInBounds_toArray, List.set_cons_zero, List.set_cons_succ]
          refine wpAnyH_done (by kernel_rfl) ?_ _
          have HN : Hid (SideIn w T p B q N (prdT f0 g 1 n) w4 ∧ ApF (prdT f0 g 1 n)) := ⟨h4, HH.out.2.rd (by omega) n⟩
          clear hHeld KS KQ HH h4 kp3 kp4 k4 hq1 e0 hn
          go_wp2
          go_roundw
          case rel => exact ⟨r + 1, _, by go_num, by omega, by omega, HN.out⟩
          case measure => simp [intOf]; omega
        by_cases hk4 : qk = 4
        · subst hk4
          as_aux_lemma =>
          obtain ⟨n, hn⟩ : ∃ n : Int, (0 : Int) + qn % (2 - 0 + 1) = n := ⟨_, rfl⟩
          have hn1 : 0 ≤ n ∧ n ≤ 2 := by omega
          have KS : ∀ w', Kept (fun n => n = N) wc w' → (w'.cell? ⟨T, 1, none⟩ = some (.pointer (some ⟨q, 0, none⟩)) ∧ w'.cell? ⟨mb, of + r * 4 + 2, none⟩ = some (.int .i64 qn) ∧ w'.cell? ⟨mb, of + r * 4 + 3, none⟩ = some (.bool qb)) := KQ
          have hix : (0 : Int) ≤ (r : Int) := by omega
          go_wp2_with fail
          refine wp_region_held_drew (S := fun w' => Kept (fun n => n = N) wc w') (by kernel_rfl) ((Kept.refl _ _).drew) (fun hHeld => ?_)
          refine h_take 0 (some 104) (Op.move (Operand.tmp 5)) 22 ?v11 rfl rfl (by kernel_rfl) (by kernel_rfl) (by kernel_rfl) (fun _ _ _ h => h) ?hy11 hHeld ?_
          case hy11 => (intro _ _ _ w hSw; have hcs := KS _ hSw; go_simp; try with_reducible rfl)
          simp only [Act.put, List.setIfInBounds_toArray, List.set_cons_zero, List.set_cons_succ]
          refine h_take 1 (some 105) (Op.nilCheck (Operand.tmp 104)) 0 ?v12 rfl rfl (by kernel_rfl) (by kernel_rfl) (by kernel_rfl) (fun _ _ _ h => h) ?hy12 hHeld ?_
          case hy12 => (intro _ _ _ w hSw; have hcs := KS _ hSw; go_simp; try with_reducible rfl)
          simp only [Act.put, List.setIfInBounds_toArray, List.set_cons_zero, List.set_cons_succ]
          refine h_take 2 (some 106) (Op.fieldAddr 29 (Operand.tmp 105) 1) 0 ?v13 rfl rfl (by kernel_rfl) (by kernel_rfl) (by kernel_rfl) (fun _ _ _ h => h) ?hy13 hHeld ?_
          case hy13 => (intro _ _ _ w hSw; have hcs := KS _ hSw; go_simp; try with_reducible rfl)
          simp only [Act.put, List.setIfInBounds_toArray, List.set_cons_zero, List.set_cons_succ]
          refine h_take 3 (some 107) (Op.load 25 (Operand.tmp 106)) 25 ?v14 rfl rfl (by kernel_rfl) (by kernel_rfl) (by kernel_rfl) (fun _ _ _ h => h) ?hy14 hHeld ?_
          case hy14 => (intro _ _ _ w hSw; have hcs := KS _ hSw; go_simp; try with_reducible rfl)
          simp only [Act.put, List.setIfInBounds_toArray, List.set_cons_zero, List.set_cons_succ]
          refine h_take 4 (some 108) (Op.move (Operand.tmp 8)) 3 ?v15 rfl rfl (by kernel_rfl) (by kernel_rfl) (by kernel_rfl) (fun _ _ _ h => h) ?hy15 hHeld ?_
          case hy15 => (intro _ _ _ w hSw; have hcs := KS _ hSw; go_simp; try with_reducible rfl)
          simp only [Act.put, List.setIfInBounds_toArray, List.set_cons_zero, List.set_cons_succ]
          refine h_take 5 (some 109) (Op.move (Operand.tmp 0)) 40 ?v16 rfl rfl (by kernel_rfl) (by kernel_rfl) (by kernel_rfl) (fun _ _ _ h => h) ?hy16 hHeld ?_
          case hy16 => (intro _ _ _ w hSw; have hcs := KS _ hSw; go_simp; try with_reducible rfl)
          simp only [Act.put, List.setIfInBounds_toArray, List.set_cons_zero, List.set_cons_succ]
          refine h_take 6 (some 110) (Op.move (Operand.tmp 12)) 3 ?v17 rfl rfl (by kernel_rfl) (by kernel_rfl) (by kernel_rfl) (fun _ _ _ h => h) ?hy17 hHeld ?_
          case hy17 => (intro _ _ _ w hSw; have hcs := KS _ hSw; go_simp; try with_reducible rfl)
          simp only [Act.put, List.setIfInBounds_toArray, List.set_cons_zero, List.set_cons_succ]
          refine h_take 7 (some 111) (Op.indexAddr 40 (Operand.tmp 109) (Operand.tmp 110)) 0 ?v18 rfl rfl (by kernel_rfl) (by kernel_rfl) (by kernel_rfl) (fun _ _ _ h => h) ?hy18 hHeld ?_
          case hy18 => (intro _ _ _ w hSw; have hcs := KS _ hSw; go_simp; try with_reducible rfl)
          simp only [Act.put, List.setIfInBounds_toArray, List.set_cons_zero, List.set_cons_succ]
          refine h_take 8 (some 112) (Op.fieldAddr 42 (Operand.tmp 111) 3) 0 ?v19 rfl rfl (by kernel_rfl) (by kernel_rfl) (by kernel_rfl) (fun _ _ _ h => h) ?hy19 hHeld ?_
          case hy19 => (intro _ _ _ w hSw; have hcs := KS _ hSw; go_simp; try with_reducible rfl)
          simp only [Act.put, List.setIfInBounds_toArray, List.set_cons_zero, List.set_cons_succ]
          refine h_take 9 (some 113) (Op.load 4 (Operand.tmp 112)) 4 ?v20 rfl rfl (by kernel_rfl) (by kernel_rfl) (by kernel_rfl) (fun _ _ _ h => h) ?hy20 hHeld ?_
          case hy20 => (intro _ _ _ w hSw; have hcs := KS _ hSw; go_simp; try with_reducible rfl)
          simp only [Act.put, List.setIfInBounds_toArray, List.set_cons_zero, List.set_cons_succ]
          refine h_take 10 (some 114) (Op.move (Operand.tmp 0)) 40 ?v21 rfl rfl (by kernel_rfl) (by kernel_rfl) (by kernel_rfl) (fun _ _ _ h => h) ?hy21 hHeld ?_
          case hy21 => (intro _ _ _ w hSw; have hcs := KS _ hSw; go_simp; try with_reducible rfl)
          simp only [Act.put, List.setIfInBounds_toArray, List.set_cons_zero, List.set_cons_succ]
          refine h_take 11 (some 115) (Op.move (Operand.tmp 12)) 3 ?v22 rfl rfl (by kernel_rfl) (by kernel_rfl) (by kernel_rfl) (fun _ _ _ h => h) ?hy22 hHeld ?_
          case hy22 => (intro _ _ _ w hSw; have hcs := KS _ hSw; go_simp; try with_reducible rfl)
          simp only [Act.put, List.setIfInBounds_toArray, List.set_cons_zero, List.set_cons_succ]
          refine h_take 12 (some 116) (Op.indexAddr 40 (Operand.tmp 114) (Operand.tmp 115)) 0 ?v23 rfl rfl (by kernel_rfl) (by kernel_rfl) (by kernel_rfl) (fun _ _ _ h => h) ?hy23 hHeld ?_
          case hy23 => (intro _ _ _ w hSw; have hcs := KS _ hSw; go_simp; try with_reducible rfl)
          simp only [Act.put, List.setIfInBounds_toArray, List.set_cons_zero, List.set_cons_succ]
          refine h_take 13 (some 117) (Op.fieldAddr 42 (Operand.tmp 116) 2) 0 ?v24 rfl rfl (by kernel_rfl) (by kernel_rfl) (by kernel_rfl) (fun _ _ _ h => h) ?hy24 hHeld ?_
          case hy24 => (intro _ _ _ w hSw; have hcs := KS _ hSw; go_simp; try with_reducible rfl)
          simp only [Act.put, List.setIfInBounds_toArray, List.set_cons_zero, List.set_cons_succ]
          refine h_take 14 (some 118) (Op.load 3 (Operand.tmp 117)) 3 ?v25 rfl rfl (by kernel_rfl) (by kernel_rfl) (by kernel_rfl) (fun _ _ _ h => h) ?hy25 hHeld ?_
          case hy25 => (intro _ _ _ w hSw; have hcs := KS _ hSw; go_simp; try with_reducible rfl)
          simp only [Act.put, List.setIfInBounds_toArray, List.set_cons_zero, List.set_cons_succ]
          refine h_step 15 (some 119) (Op.call { callee := Callee.value (Operand.func 17), args := #[Operand.tmp 118, Operand.const (Value.int IntKind.i64 0), Operand.const (Value.int IntKind.i64 2)], argTypes := #[3, 3, 3] }) 3 rfl rfl (by kernel_rfl) (fun _ _ _ K hK => ?_)
          go_simp
          refine (within_any qn 0 2 (by omega) (by omega) (by omega) _).mono ?_
          rintro e w3 ⟨rfl, hw3⟩
          subst hw3
          rw [hn]
          have kp3 : Kept (fun _ => False) wc wc.drew := (Kept.refl _ _).drew
          go_wp2_with fail
          refine hK.out _ _ (kp3.mono (fun _ _ e => e.elim)) (fun hHeld => ?_)
          clear hK K
          try simp only [Act.put, List.setIfInBounds_toArray, List.set_cons_zero, List.set_cons_succ]
          refine h_take 16 (some 120) (Op.binOp BinOp.sub 3 (Operand.tmp 119) (Operand.const (Value.int IntKind.i64 1)) 3) 3 ?v26 rfl rfl (by kernel_rfl) (by kernel_rfl) (by kernel_rfl) (fun _ _ _ h => h) ?hy26 hHeld ?_
          case hy26 => (intro _ _ _ w hSw; have hcs := KS _ hSw; go_simp; try with_reducible rfl)
          simp only [Act.put, List.setIfInBounds_toArray, List.set_cons_zero, List.set_cons_succ]
          refine h_step 17 (some 121) (Op.call { callee := Callee.value (Operand.func 12), args := #[Operand.tmp 107, Operand.tmp 108, Operand.tmp 113, Operand.tmp 120], argTypes := #[25, 3, 4, 3] }) 4 rfl rfl (by kernel_rfl) (fun _ _ _ K hK => ?_)
          go_simp
          obtain ⟨b, hb⟩ : ∃ b : Int, n - 1 = b := ⟨_, rfl⟩
          try rw [hb]
          refine (side_pend (HH.out.1.still kp3) 1 qb _).mono ?_
          rintro e w4 ⟨rfl, h4, kp4⟩
          have k4 : Kept (fun n => n = N) wc w4 := (kp3.mono (fun _ _ e => e.elim)).trans kp4 (fun _ _ e => e)
          go_wp2_with fail
          refine hK.out _ _ (k4) (fun hHeld => ?_)
          clear hK K
          try simp only [Act.put, List.setIfInBounds_toArray, List.set_cons_zero, List.set_cons_succ]
          refine wpAnyH_done (by kernel_rfl) ?_ _
          have HN : Hid (∃ b, SideIn w T p B q N (endT f0 g 1 qb b) w4 ∧ ApF (endT f0 g 1 qb b)) := ⟨_, h4, HH.out.2.ends qb _⟩
          clear hHeld KS KQ HH h4 kp3 kp4 k4 hq1 e0 hn hb
          go_wp2
          go_roundw
          case rel => exact ⟨r + 1, _, by go_num, by omega, by omega, HN.out.choose_spec⟩
          case measure => simp [intOf]; omega
        ·
          as_aux_lemma =>
          obtain ⟨n, hn⟩ : ∃ n : Int, (0 : Int) + qn % (20 - 0 + 1) = n := ⟨_, rfl⟩
          have hn1 : 0 ≤ n ∧ n ≤ 1000 := by omega
          have KS : ∀ w', Kept (fun n => n = N) wc w' → (w'.cell? ⟨T, 1, none⟩ = some (.pointer (some ⟨q, 0, none⟩)) ∧ w'.cell? ⟨mb, of + r * 4 + 2, none⟩ = some (.int .i64 qn)) := fun w' hk' => ⟨(KQ w' hk').1, (KQ w' hk').2.1⟩
          have hix : (0 : Int) ≤ (r : Int) := by omega
          go_wp2_with fail
          refine wp_region_held_drew (S := fun w' => Kept (fun n => n = N) wc w') (by kernel_rfl) ((Kept.refl _ _).drew) (fun hHeld => ?_)
          refine h_take 0 (some 74) (Op.move (Operand.tmp 5)) 22 ?v27 rfl rfl (by kernel_rfl) (by kernel_rfl) (by kernel_rfl) (fun _ _ _ h => h) ?hy27 hHeld ?_
          case hy27 => (intro _ _ _ w hSw; have hcs := KS _ hSw; go_simp; try with_reducible rfl)
          simp only [Act.put, List.setIfInBounds_toArray, List.set_cons_zero, List.set_cons_succ]
          refine h_take 1 (some 75) (Op.nilCheck (Operand.tmp 74)) 0 ?v28 rfl rfl (by kernel_rfl) (by kernel_rfl) (by kernel_rfl) (fun _ _ _ h => h) ?hy28 hHeld ?_
          case hy28 => (intro _ _ _ w hSw; have hcs := KS _ hSw; go_simp; try with_reducible rfl)
          simp only [Act.put, List.setIfInBounds_toArray, List.set_cons_zero, List.set_cons_succ]
          refine h_take 2 (some 76) (Op.fieldAddr 29 (Operand.tmp 75) 1) 0 ?v29 rfl rfl (by kernel_rfl) (by kernel_rfl) (by kernel_rfl) (fun _ _ _ h => h) ?hy29 hHeld ?_
          case hy29 => (intro _ _ _ w hSw; have hcs := KS _ hSw; go_simp; try with_reducible rfl)
          simp only [Act.put, List.setIfInBounds_toArray, List.set_cons_zero, List.set_cons_succ]
          refine h_take 3 (some 77) (Op.load 25 (Operand.tmp 76)) 25 ?v30 rfl rfl (by kernel_rfl) (by kernel_rfl) (by kernel_rfl) (fun _ _ _ h => h) ?hy30 hHeld ?_
          case hy30 => (intro _ _ _ w hSw; have hcs := KS _ hSw; go_simp; try with_reducible rfl)
          simp only [Act.put, List.setIfInBounds_toArray, List.set_cons_zero, List.set_cons_succ]
          refine h_take 4 (some 78) (Op.move (Operand.tmp 8)) 3 ?v31 rfl rfl (by kernel_rfl) (by kernel_rfl) (by kernel_rfl) (fun _ _ _ h => h) ?hy31 hHeld ?_
          case hy31 => (intro _ _ _ w hSw; have hcs := KS _ hSw; go_simp; try with_reducible rfl)
          simp only [Act.put, List.setIfInBounds_toArray, List.set_cons_zero, List.set_cons_succ]
          refine h_take 5 (some 79) (Op.move (Operand.tmp 12)) 3 ?v32 rfl rfl (by kernel_rfl) (by kernel_rfl) (by kernel_rfl) (fun _ _ _ h => h) ?hy32 hHeld ?_
          case hy32 => (intro _ _ _ w hSw; have hcs := KS _ hSw; go_simp; try with_reducible rfl)
          simp only [Act.put, List.setIfInBounds_toArray, List.set_cons_zero, List.set_cons_succ]
          refine h_take 6 (some 80) (Op.move (Operand.tmp 0)) 40 ?v33 rfl rfl (by kernel_rfl) (by kernel_rfl) (by kernel_rfl) (fun _ _ _ h => h) ?hy33 hHeld ?_
          case hy33 => (intro _ _ _ w hSw; have hcs := KS _ hSw; go_simp; try with_reducible rfl)
          simp only [Act.put, List.setIfInBounds_toArray, List.set_cons_zero, List.set_cons_succ]
          refine h_take 7 (some 81) (Op.move (Operand.tmp 12)) 3 ?v34 rfl rfl (by kernel_rfl) (by kernel_rfl) (by kernel_rfl) (fun _ _ _ h => h) ?hy34 hHeld ?_
          case hy34 => (intro _ _ _ w hSw; have hcs := KS _ hSw; go_simp; try with_reducible rfl)
          simp only [Act.put, List.setIfInBounds_toArray, List.set_cons_zero, List.set_cons_succ]
          refine h_take 8 (some 82) (Op.indexAddr 40 (Operand.tmp 80) (Operand.tmp 81)) 0 ?v35 rfl rfl (by kernel_rfl) (by kernel_rfl) (by kernel_rfl) (fun _ _ _ h => h) ?hy35 hHeld ?_
          case hy35 => (intro _ _ _ w hSw; have hcs := KS _ hSw; go_simp; try with_reducible rfl)
          simp only [Act.put, List.setIfInBounds_toArray, List.set_cons_zero, List.set_cons_succ]
          refine h_take 9 (some 83) (Op.fieldAddr 42 (Operand.tmp 82) 2) 0 ?v36 rfl rfl (by kernel_rfl) (by kernel_rfl) (by kernel_rfl) (fun _ _ _ h => h) ?hy36 hHeld ?_
          case hy36 => (intro _ _ _ w hSw; have hcs := KS _ hSw; go_simp; try with_reducible rfl)
          simp only [Act.put, List.setIfInBounds_toArray, List.set_cons_zero, List.set_cons_succ]
          refine h_take 10 (some 84) (Op.load 3 (Operand.tmp 83)) 3 ?v37 rfl rfl (by kernel_rfl) (by kernel_rfl) (by kernel_rfl) (fun _ _ _ h => h) ?hy37 hHeld ?_
          case hy37 => (intro _ _ _ w hSw; have hcs := KS _ hSw; go_simp; try with_reducible rfl)
          simp only [Act.put, List.setIfInBounds_toArray, List.set_cons_zero, List.set_cons_succ]
          refine h_step 11 (some 85) (Op.call { callee := Callee.value (Operand.func 17), args := #[Operand.tmp 84, Operand.const (Value.int IntKind.i64 0), Operand.const (Value.int IntKind.i64 20)], argTypes := #[3, 3, 3] }) 3 rfl rfl (by kernel_rfl) (fun _ _ _ K hK => ?_)
          go_simp
          refine (within_any qn 0 20 (by omega) (by omega) (by omega) _).mono ?_
          rintro e w3 ⟨rfl, hw3⟩
          subst hw3
          rw [hn]
          have kp3 : Kept (fun _ => False) wc wc.drew := (Kept.refl _ _).drew
          go_wp2_with fail
          refine hK.out _ _ (kp3.mono (fun _ _ e => e.elim)) (fun hHeld => ?_)
          clear hK K
          try simp only [Act.put, List.setIfInBounds_toArray, List.set_cons_zero, List.set_cons_succ]
          refine h_step 12 (some 86) (Op.call { callee := Callee.value (Operand.func 16), args := #[Operand.tmp 79, Operand.tmp 85], argTypes := #[3, 3] }) 9 rfl rfl (by kernel_rfl) (fun _ _ _ K hK => ?_)
          go_simp
          refine (text_w _ n hn1.1 hn1.2 _).mono ?_
          rintro e w4 ⟨t, rfl, hts, hk4⟩
          have kp4 : Kept (fun _ => False) wc w4 := kp3.thru hk4
          clear hts
          go_wp2_with fail
          refine hK.out _ _ (kp4.mono (fun _ _ e => e.elim)) (fun hHeld => ?_)
          clear hK K
          try simp only [Act.put, List.setIfInBounds_toArray, List.set_cons_zero, List.set_cons_succ]
          refine h_step 13 (some 87) (Op.call { callee := Callee.value (Operand.func 10), args := #[Operand.tmp 77, Operand.tmp 78, Operand.tmp 86], argTypes := #[25, 3, 9] }) 32 rfl rfl (by kernel_rfl) (fun _ _ _ K hK => ?_)
          go_simp
          refine (side_pwr (HH.out.1.still kp4) 1 t).mono ?_
          rintro e w5 ⟨rfl, h5, kp5⟩
          have k5 : Kept (fun n => n = N) wc w5 := (kp4.mono (fun _ _ e => e.elim)).trans kp5 (fun _ _ e => e)
          go_wp2_with fail
          refine hK.out _ _ (k5) (fun hHeld => ?_)
          clear hK K
          try simp only [Act.put, List.setIfInBounds_toArray, List.set_cons_zero, List.set_cons_succ]
          refine wpAnyH_done (by kernel_rfl) ?_ _
          have HN : Hid (SideIn w T p B q N (pwrT f0 g 1 t) w5 ∧ ApF (pwrT f0 g 1 t)) := ⟨h5, HH.out.2.wr (by omega) t⟩
          clear hHeld KS KQ HH h5 kp3 kp4 kp5 hk4 k5 hq1 e0 hn
          go_wp2
          go_roundw
          case rel => exact ⟨r + 1, _, by go_num, by omega, by omega, HN.out⟩
          case measure => simp [intOf]; omega
      | false =>
        as_aux_lemma =>
        clear hz
        have h1 := HH.out.1
        have hA := HH.out.2
        have x1 := h1.t
        clear HH
        obtain ⟨o, ho⟩ : ∃ o : Int, (4 : Int) + (0 + a1 % (9 - 0 + 1)) = o := ⟨_, rfl⟩
        have ho4 : ¬ (0 ≤ o ∧ o < 4) := by omega
        have ho5 : ¬ (0 ≤ -1 - o ∧ -1 - o < 4) := by omega
        have ho6 : 4 ≤ o ∧ o ≤ 13 := by omega
        go_wp2_with fail
        refine (within_any a1 0 9 (by omega) (by omega) (by omega) _).mono ?_
        rintro e w2 ⟨rfl, hw2⟩
        subst hw2
        obtain ⟨a2, ha2⟩ : ∃ a2 : Int, (0 : Int) + a1 % (9 - 0 + 1) = a2 := ⟨_, rfl⟩
        rw [ha2] at ho ⊢
        have ha3 : 0 ≤ a2 ∧ a2 ≤ 9 := by omega
        clear ha2
        go_wp2_with fail
        refine (side_prd h1 o 1).mono ?_
        rintro e w3 ⟨rfl, h3, -⟩
        rw [no_read ho4]
        have hA3 := hA.rd (show o ≠ 0 by omega) 1
        have x3 := h3.t
        generalize prdT f0 g o 1 = g3 at *
        clear h1 x1 hA ho
        obtain ⟨o2, ho2⟩ : ∃ o2 : Int, -1 - o = o2 := ⟨_, rfl⟩
        rw [ho2] at ho5
        have ho7 : o2 ≠ 0 := by omega
        go_wp2_with fail
        refine (side_pwr h3 o2 ⟨#[120]⟩).mono ?_
        rintro e w4 ⟨rfl, h4, -⟩
        rw [no_write ho5]
        have hA4 := hA3.wr ho7 ⟨#[120]⟩
        have x4 := h4.t
        generalize pwrT f0 g3 o2 ⟨#[120]⟩ = g4 at *
        clear h3 x3 hA3 ho2
        go_wp2_with fail
        refine (side_prd h4 0 (-1)).mono ?_
        rintro e w5 ⟨rfl, h5, -⟩
        rw [(neg_read (g := g4) (by omega : (-1 : Int) < 0) 0).1]
        rw [(neg_read (g := g4) (by omega : (-1 : Int) < 0) 0).2] at h5
        have hA5 := hA4.isT 0
        have x5 := h5.t
        generalize isPT g4 0 = g5 at *
        clear h4 x4 hA4
        go_wp2_with fail
        refine (side_prd h5 0 99).mono ?_
        rintro e w6 ⟨rfl, h6, -⟩
        rw [hA5.read]
        have x6 := h6.t
        clear h5 x5 hA5
        go_wp2_with fail
        refine (side_pend h6 o true 1).mono ?_
        rintro e w7 ⟨rfl, h7, -⟩
        rw [(isP_out ho4).1]
        have HK : Hid (Kept (fun _ => False) w w7) := h7.kept
        clear h6 x6 h7
        go_wp2_with fail
        refine (runs_w w7).mono ?_
        rintro e w8 ⟨rfl, hk8⟩
        have HK : Hid (Kept (fun _ => False) w w8) := HK.out.thru hk8
        clear hk8
        go_wp2_with fail
        go_ret
        exact ⟨rfl, HK.out⟩
end Go.Proofs.Ytdjdnjngelahjaa
