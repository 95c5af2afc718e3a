/- The statement on views apart; no conditions. -/
import Derived.Test.YtehifngelkenaaaPairF
import Derived.Deep.CutBlock
namespace Go.Proofs.Ytehifngelkenaaa
open Go.RowKit
set_option linter.unusedSimpArgs false

theorem ask_cells {w : World} {b o : Nat} {t : Q3} (h : w.rangeAt b o (ac t)) : w.cell? ⟨b, o, none⟩ = some (.int .i64 t.1) ∧ w.cell? ⟨b, o + 1, none⟩ = some (.int .i64 t.2.1.1) ∧ w.cell? ⟨b, o + 1 + 1, none⟩ = some (.int .i64 t.2.1.2) ∧ w.rangeAt b (o + 3) (vc t.2.2) := by
  refine ⟨h 0 _ rfl, h 1 _ rfl, h 2 _ rfl, fun j u hu => ?_⟩
  have : (ac t)[3 + j]? = some u := by rw [Nat.add_comm]; exact hu
  have := h _ _ this
  rw [show o + (3 + j) = o + 3 + j by omega] at this
  exact this

set_option maxRecDepth 100000 in
set_option maxHeartbeats 4000000 in
theorem apart_law (ao : Option Addr) (len cap lb off : Nat) (Q : Nat → Q3) (hao : 0 < len → ao = some ⟨lb, off, none⟩) (mo : Option Addr) (mlen mcap mb moff : Nat) (M : Nat → Q3) (hmo : 0 < mlen → mo = some ⟨mb, moff, none⟩)
    (no : Option Addr) (nlen ncap nb noff : Nat) (L : Nat → Q3) (hno : 0 < nlen → no = some ⟨nb, noff, none⟩) (oo : Option Addr) (olen ocap ob ooff : Nat) (O : Nat → Bool) (hoo : 0 < olen → oo = some ⟨ob, ooff, none⟩) (w : World)
    (hc : ∀ i, i < len → w.rangeAt lb (off + i * 20) (ac (Q i))) (hM : ∀ i, i < mlen → w.rangeAt mb (moff + i * 20) (ac (M i))) (hL : ∀ i, i < nlen → w.rangeAt nb (noff + i * 20) (ac (L i))) (hO : ∀ i, i < olen → w.cell? ⟨ob, ooff + i, none⟩ = some (.bool (O i))) :
    Calls Try.prog 5 #[.slice ao len cap, .slice mo mlen mcap, .slice no nlen ncap, .slice oo olen ocap] w fun e w' => e = .returned (.bool true) ∧ Kept (fun _ => False) w w' := by
  have HC : Hid _ := hc
  have HM : Hid _ := hM
  have HL : Hid _ := hL
  have HO : Hid _ := hO
  clear hc hM hL hO
  go_enter Try.func5, Try.ntmps5
  go_wp2_with fail
  refine (new_w w).mono ?_
  rintro e w1 ⟨p, B, rfl, hS, hk1, hp, hB⟩
  have HS1 : Hid (StoreIn p B (fun _ => none) w1 ∧ Kept (fun _ => False) w w1) := ⟨hS, hk1⟩
  clear hS hk1
  go_upto_block 0 with fail
  go_cut [10] from 29 to 50 (fun _ wr => ∃ f : StF, Hid (StoreIn p B f wr ∧ Kept (fun _ => False) w wr))
  case first =>
    as_aux_lemma =>
    go_wp2_with fail
    go_loopw [10] (fun i wr => ∃ (j : Nat) (f : StF), i = .int .i64 j ∧ j ≤ len ∧ j ≤ 20 ∧ Hid (StoreIn p B f wr ∧ Kept (fun _ => False) w wr)) (fun i _ => 20 - (intOf i).toNat)
    case atStart => exact ⟨0, _, rfl, Nat.zero_le _, Nat.zero_le _, HS1.out⟩
    case round =>
      obtain ⟨j, f, rfl, hjl, hj20, HH⟩ := hrel
      clear HS1 HM HL HO hmo hno hoo
      by_cases hlt : j < len ∧ j < 20
      · obtain ⟨hj1, hj2⟩ := hlt
        obtain ⟨-, c1, c2, r3⟩ := ask_cells (range_kept (HC.out j hj1) HH.out.2 (fun x => x))
        obtain ⟨⟨kd0, ⟨kx, ky⟩, v⟩, hQ⟩ : ∃ t, Q j = t := ⟨_, rfl⟩
        rw [hQ] at c1 c2 r3
        simp only at c1 c2 r3
        obtain rfl := hao (by omega)
        have t1 : (j : Int) < (len : Int) := by omega
        have t2 : (j : Int) < 20 := by omega
        have hlb : lb ≠ B := by have := World.block_lt_of_cell? _ _ (HC.out j hj1 0 _ rfl); simp at this; omega
        clear HC hQ
        go_wp2_with fail
        have KS : ∀ w', Kept (fun n => n = B) wr w' → (w'.cell? ⟨lb, off + j * 20 + 1, none⟩ = some (.int .i64 kx) ∧ w'.cell? ⟨lb, off + j * 20 + 1 + 1, none⟩ = some (.int .i64 ky)) :=
          fun w' hk' => ⟨hk'.cell c1 hlb, hk'.cell c2 hlb⟩
        have KV : ∀ w', Kept (fun n => n = B) wr w' → w'.rangeAt lb (off + j * 20 + 3) (vc v) := fun w' hk' => range_kept r3 hk' hlb
        refine wp_region_held_drew (S := fun w' => Kept (fun n => n = B) wr w') (by kernel_rfl) ((Kept.refl _ _).drew) (fun hHeld => ?_)
        refine h_take 0 (some 39) (Op.move (Operand.tmp 9)) 22 ?v1 rfl rfl (by kernel_rfl) (by kernel_rfl) (by kernel_rfl) (fun _ _ _ h => h) ?hy1 hHeld ?_
        case hy1 => (intro _ _ _ w hSw; have hcs := KS _ hSw; go_simp; try with_reducible rfl)
        simp only [Act.put, List.setIfInBounds_toArray, List.set_cons_zero, List.set_cons_succ]
        refine h_take 1 (some 40) (Op.move (Operand.tmp 0)) 44 ?v2 rfl rfl (by kernel_rfl) (by kernel_rfl) (by kernel_rfl) (fun _ _ _ h => h) ?hy2 hHeld ?_
        case hy2 => (intro _ _ _ w hSw; have hcs := KS _ hSw; go_simp; try with_reducible rfl)
        simp only [Act.put, List.setIfInBounds_toArray, List.set_cons_zero, List.set_cons_succ]
        refine h_take 2 (some 41) (Op.move (Operand.tmp 10)) 3 ?v3 rfl rfl (by kernel_rfl) (by kernel_rfl) (by kernel_rfl) (fun _ _ _ h => h) ?hy3 hHeld ?_
        case hy3 => (intro _ _ _ w hSw; have hcs := KS _ hSw; go_simp; try with_reducible rfl)
        simp only [Act.put, List.setIfInBounds_toArray, List.set_cons_zero, List.set_cons_succ]
        refine h_take 3 (some 42) (Op.indexAddr 44 (Operand.tmp 40) (Operand.tmp 41)) 0 ?v4 rfl rfl (by kernel_rfl) (by kernel_rfl) (by kernel_rfl) (fun _ _ _ h => h) ?hy4 hHeld ?_
        case hy4 => (intro _ _ _ w hSw; have hcs := KS _ hSw; go_simp; try with_reducible rfl)
        simp only [Act.put, List.setIfInBounds_toArray, List.set_cons_zero, List.set_cons_succ]
        refine h_take 4 (some 43) (Op.fieldAddr 50 (Operand.tmp 42) 1) 0 ?v5 rfl rfl (by kernel_rfl) (by kernel_rfl) (by kernel_rfl) (fun _ _ _ h => h) ?hy5 hHeld ?_
        case hy5 => (intro _ _ _ w hSw; have hcs := KS _ hSw; go_simp; try with_reducible rfl)
        simp only [Act.put, List.setIfInBounds_toArray, List.set_cons_zero, List.set_cons_succ]
        refine h_take 5 (some 44) (Op.load 25 (Operand.tmp 43)) 25 ?v6 rfl rfl (by kernel_rfl) (by kernel_rfl) (by kernel_rfl) (fun _ _ _ h => h) ?hy6 hHeld ?_
        case hy6 => (intro _ _ _ w hSw; have hcs := KS _ hSw; go_simp; try with_reducible rfl)
        simp only [Act.put, List.setIfInBounds_toArray, List.set_cons_zero, List.set_cons_succ]
        refine h_take 6 (some 45) (Op.move (Operand.tmp 0)) 44 ?v7 rfl rfl (by kernel_rfl) (by kernel_rfl) (by kernel_rfl) (fun _ _ _ h => h) ?hy7 hHeld ?_
        case hy7 => (intro _ _ _ w hSw; have hcs := KS _ hSw; go_simp; try with_reducible rfl)
        simp only [Act.put, List.setIfInBounds_toArray, List.set_cons_zero, List.set_cons_succ]
        refine h_take 7 (some 46) (Op.move (Operand.tmp 10)) 3 ?v8 rfl rfl (by kernel_rfl) (by kernel_rfl) (by kernel_rfl) (fun _ _ _ h => h) ?hy8 hHeld ?_
        case hy8 => (intro _ _ _ w hSw; have hcs := KS _ hSw; go_simp; try with_reducible rfl)
        simp only [Act.put, List.setIfInBounds_toArray, List.set_cons_zero, List.set_cons_succ]
        refine h_take 8 (some 47) (Op.indexAddr 44 (Operand.tmp 45) (Operand.tmp 46)) 0 ?v9 rfl rfl (by kernel_rfl) (by kernel_rfl) (by kernel_rfl) (fun _ _ _ h => h) ?hy9 hHeld ?_
        case hy9 => (intro _ _ _ w hSw; have hcs := KS _ hSw; go_simp; try with_reducible rfl)
        simp only [Act.put, List.setIfInBounds_toArray, List.set_cons_zero, List.set_cons_succ]
        refine h_take 9 (some 48) (Op.fieldAddr 50 (Operand.tmp 47) 2) 0 ?v10 rfl rfl (by kernel_rfl) (by kernel_rfl) (by kernel_rfl) (fun _ _ _ h => h) ?hy10 hHeld ?_
        case hy10 => (intro _ _ _ w hSw; have hcs := KS _ hSw; go_simp; try with_reducible rfl)
        simp only [Act.put, List.setIfInBounds_toArray, List.set_cons_zero, List.set_cons_succ]
        refine h_take 10 (some 49) (Op.load 29 (Operand.tmp 48)) 29 (vv v) rfl rfl (by kernel_rfl) (by kernel_rfl) (by kernel_rfl) (fun _ _ _ h => h) (fun _ _ _ w hSw => exec_load rfl (load_wide wide_V (KV w hSw) rfl)) hHeld ?_
        simp only [Act.put, List.setIfInBounds_toArray, List.set_cons_zero, List.set_cons_succ]
        refine h_step 11 (some 50) (Op.call { callee := Callee.value (Operand.func 8), args := #[Operand.tmp 39, Operand.tmp 44, Operand.tmp 49], argTypes := #[22, 25, 29] }) 4 rfl rfl (by kernel_rfl) (fun _ _ _ K hK => ?_)
        go_simp
        refine (put_w p B f kx ky v wr.drew (HH.out.1.still (Kept.refl _ _).drew)).mono ?_
        rintro e w2 ⟨rfl, hS2, hk2⟩
        have k2 : Kept (fun n => n = B) wr w2 := (Kept.refl _ wr).drew.trans hk2 (fun _ _ e => e)
        go_wp2_with fail
        refine hK.out _ _ (k2) (fun hHeld => ?_)
        clear hK K
        try simp only [Act.put, List.setIfInBounds_toArray, List.set_cons_zero, List.set_cons_succ]
        refine wpAnyH_done (by kernel_rfl) ?_ _
        have HN : Hid (StoreIn p B (putF f (kx, ky) v) w2 ∧ Kept (fun _ => False) w w2) := ⟨hS2, HH.out.2.trans k2 (fun k h1 h2 => by omega)⟩
        clear hHeld KS KV hS2 hk2 k2 HH r3 c1 c2
        go_wp2
        go_roundw
        case rel => exact ⟨j + 1, _, by go_num, by omega, by omega, HN.out⟩
        case measure => simp [intOf]; omega
      · have HR : Hid _ := HH.out
        clear HH HC
        by_cases hj1 : j < len
        · have t1 : (j : Int) < (len : Int) := by omega
          have t2 : ¬ (j : Int) < 20 := by omega
          clear hlt
          go_wp2
          go_meet
          case rel => exact ⟨f, HR.out⟩
        · have t1 : ¬ (j : Int) < (len : Int) := by omega
          clear hlt
          go_wp2
          go_meet
          case rel => exact ⟨f, HR.out⟩
  case rest =>
    as_aux_lemma =>
    obtain ⟨f, HS⟩ := hcut
    clear HS1 HC hao
    obtain ⟨w2, hw2⟩ : ∃ w2, wc = w2 := ⟨_, rfl⟩
    rw [hw2] at HS ⊢
    clear hw2
    go_wp2_with fail
    refine (look_w p w2).mono ?_
    rintro e w3 ⟨q, N, rfl, hV3, hk3, hq, hN⟩
    go_wp2_with fail
    refine (look_w p w3).mono ?_
    rintro e w4 ⟨q2, N2, rfl, hV4, hk4, hq2, hN2⟩
    have H0 : Hid (PairIn w p B q N q2 N2 f (fun _ => none) (fun _ => none) w4) := by
      have l1 := HS.out.1.map.lt
      have l2 := hV3.map.lt
      have s1 := HS.out.2.size
      have s3 := hk3.size
      exact ⟨(HS.out.1.still hk3).still hk4, hV3.still hk4, hV4, (HS.out.2.thru hk3).thru hk4, by omega, by omega, by omega, by omega, by omega⟩
    clear hV3 hV4 hk3 hk4 HS
    go_upto_block 2 with fail
    go_cut [13] from 61 to 89 (fun _ wx => ∃ g1 : VwF, Hid (PairIn w p B q N q2 N2 f g1 (fun _ => none) wx))
    case first =>
      as_aux_lemma =>
      go_wp2_with fail
      go_loopw [13] (fun i wr => ∃ (j : Nat) (g1 : VwF), i = .int .i64 j ∧ j ≤ mlen ∧ j ≤ 12 ∧ Hid (PairIn w p B q N q2 N2 f g1 (fun _ => none) wr)) (fun i _ => 12 - (intOf i).toNat)
      case atStart => exact ⟨0, _, rfl, Nat.zero_le _, Nat.zero_le _, H0.out⟩
      case round =>
        obtain ⟨j, g1, rfl, hjl, hj12, HH⟩ := hrel
        clear H0 HL HO hno hoo
        by_cases hlt : j < mlen ∧ j < 12
        · obtain ⟨hj1, hj2⟩ := hlt
          obtain ⟨-, c1, c2, r3⟩ := ask_cells (range_kept (HM.out j hj1) HH.out.kept (fun x => x))
          obtain ⟨⟨kd0, ⟨kx, ky⟩, v⟩, hQ⟩ : ∃ t, M j = t := ⟨_, rfl⟩
          rw [hQ] at c1 c2 r3
          simp only at c1 c2 r3
          obtain rfl := hmo (by omega)
          have t1 : (j : Int) < (mlen : Int) := by omega
          have t2 : (j : Int) < 12 := by omega
          have hlb : mb ≠ N := by have := World.block_lt_of_cell? _ _ (HM.out j hj1 0 _ rfl); have := HH.out.nN; simp at *; omega
          clear HM hQ
          go_wp2_with fail
          refine (vget_w q N p B f g1 kx ky wr HH.out.v HH.out.s HH.out.a1).mono ?_
          rintro e x1 ⟨rfl, hv1, k1⟩
          have H1 := HH.out.one hv1 k1
          replace c1 := k1.cell c1 hlb
          replace c2 := k1.cell c2 hlb
          replace r3 := range_kept r3 k1 hlb
          clear HH k1 hv1
          go_wp2_with fail
          have KS : ∀ w', Kept (fun n => n = N) x1 w' → (w'.cell? ⟨mb, moff + j * 20 + 1, none⟩ = some (.int .i64 kx) ∧ w'.cell? ⟨mb, moff + j * 20 + 1 + 1, none⟩ = some (.int .i64 ky)) :=
            fun w' hk' => ⟨hk'.cell c1 hlb, hk'.cell c2 hlb⟩
          have KV : ∀ w', Kept (fun n => n = N) x1 w' → w'.rangeAt mb (moff + j * 20 + 3) (vc v) := fun w' hk' => range_kept r3 hk' hlb
          refine wp_region_held_drew (S := fun w' => Kept (fun n => n = N) x1 w') (by kernel_rfl) ((Kept.refl _ _).drew) (fun hHeld => ?_)
          refine h_take 0 (some 78) (Op.move (Operand.tmp 11)) 31 ?v11 rfl rfl (by kernel_rfl) (by kernel_rfl) (by kernel_rfl) (fun _ _ _ h => h) ?hy11 hHeld ?_
          case hy11 => (intro _ _ _ w hSw; have hcs := KS _ hSw; go_simp; try with_reducible rfl)
          simp only [Act.put, List.setIfInBounds_toArray, List.set_cons_zero, List.set_cons_succ]
          refine h_take 1 (some 79) (Op.move (Operand.tmp 1)) 44 ?v12 rfl rfl (by kernel_rfl) (by kernel_rfl) (by kernel_rfl) (fun _ _ _ h => h) ?hy12 hHeld ?_
          case hy12 => (intro _ _ _ w hSw; have hcs := KS _ hSw; go_simp; try with_reducible rfl)
          simp only [Act.put, List.setIfInBounds_toArray, List.set_cons_zero, List.set_cons_succ]
          refine h_take 2 (some 80) (Op.move (Operand.tmp 13)) 3 ?v13 rfl rfl (by kernel_rfl) (by kernel_rfl) (by kernel_rfl) (fun _ _ _ h => h) ?hy13 hHeld ?_
          case hy13 => (intro _ _ _ w hSw; have hcs := KS _ hSw; go_simp; try with_reducible rfl)
          simp only [Act.put, List.setIfInBounds_toArray, List.set_cons_zero, List.set_cons_succ]
          refine h_take 3 (some 81) (Op.indexAddr 44 (Operand.tmp 79) (Operand.tmp 80)) 0 ?v14 rfl rfl (by kernel_rfl) (by kernel_rfl) (by kernel_rfl) (fun _ _ _ h => h) ?hy14 hHeld ?_
          case hy14 => (intro _ _ _ w hSw; have hcs := KS _ hSw; go_simp; try with_reducible rfl)
          simp only [Act.put, List.setIfInBounds_toArray, List.set_cons_zero, List.set_cons_succ]
          refine h_take 4 (some 82) (Op.fieldAddr 50 (Operand.tmp 81) 1) 0 ?v15 rfl rfl (by kernel_rfl) (by kernel_rfl) (by kernel_rfl) (fun _ _ _ h => h) ?hy15 hHeld ?_
          case hy15 => (intro _ _ _ w hSw; have hcs := KS _ hSw; go_simp; try with_reducible rfl)
          simp only [Act.put, List.setIfInBounds_toArray, List.set_cons_zero, List.set_cons_succ]
          refine h_take 5 (some 83) (Op.load 25 (Operand.tmp 82)) 25 ?v16 rfl rfl (by kernel_rfl) (by kernel_rfl) (by kernel_rfl) (fun _ _ _ h => h) ?hy16 hHeld ?_
          case hy16 => (intro _ _ _ w hSw; have hcs := KS _ hSw; go_simp; try with_reducible rfl)
          simp only [Act.put, List.setIfInBounds_toArray, List.set_cons_zero, List.set_cons_succ]
          refine h_take 6 (some 84) (Op.move (Operand.tmp 1)) 44 ?v17 rfl rfl (by kernel_rfl) (by kernel_rfl) (by kernel_rfl) (fun _ _ _ h => h) ?hy17 hHeld ?_
          case hy17 => (intro _ _ _ w hSw; have hcs := KS _ hSw; go_simp; try with_reducible rfl)
          simp only [Act.put, List.setIfInBounds_toArray, List.set_cons_zero, List.set_cons_succ]
          refine h_take 7 (some 85) (Op.move (Operand.tmp 13)) 3 ?v18 rfl rfl (by kernel_rfl) (by kernel_rfl) (by kernel_rfl) (fun _ _ _ h => h) ?hy18 hHeld ?_
          case hy18 => (intro _ _ _ w hSw; have hcs := KS _ hSw; go_simp; try with_reducible rfl)
          simp only [Act.put, List.setIfInBounds_toArray, List.set_cons_zero, List.set_cons_succ]
          refine h_take 8 (some 86) (Op.indexAddr 44 (Operand.tmp 84) (Operand.tmp 85)) 0 ?v19 rfl rfl (by kernel_rfl) (by kernel_rfl) (by kernel_rfl) (fun _ _ _ h => h) ?hy19 hHeld ?_
          case hy19 => (intro _ _ _ w hSw; have hcs := KS _ hSw; go_simp; try with_reducible rfl)
          simp only [Act.put, List.setIfInBounds_toArray, List.set_cons_zero, List.set_cons_succ]
          refine h_take 9 (some 87) (Op.fieldAddr 50 (Operand.tmp 86) 2) 0 ?v20 rfl rfl (by kernel_rfl) (by kernel_rfl) (by kernel_rfl) (fun _ _ _ h => h) ?hy20 hHeld ?_
          case hy20 => (intro _ _ _ w hSw; have hcs := KS _ hSw; go_simp; try with_reducible rfl)
          simp only [Act.put, List.setIfInBounds_toArray, List.set_cons_zero, List.set_cons_succ]
          refine h_take 10 (some 88) (Op.load 29 (Operand.tmp 87)) 29 (vv v) rfl rfl (by kernel_rfl) (by kernel_rfl) (by kernel_rfl) (fun _ _ _ h => h) (fun _ _ _ w hSw => exec_load rfl (load_wide wide_V (KV w hSw) rfl)) hHeld ?_
          simp only [Act.put, List.setIfInBounds_toArray, List.set_cons_zero, List.set_cons_succ]
          refine h_step 11 (some 89) (Op.call { callee := Callee.value (Operand.func 12), args := #[Operand.tmp 78, Operand.tmp 83, Operand.tmp 88], argTypes := #[31, 25, 29] }) 0 rfl rfl (by kernel_rfl) (fun _ _ _ K hK => ?_)
          go_simp
          refine (vput_w q N p (vgetT g1 (kx, ky)) kx ky v x1.drew (H1.v.still (Kept.refl _ _).drew)).mono ?_
          rintro e x2 ⟨rfl, hv2, hk2⟩
          have k2 : Kept (fun n => n = N) x1 x2 := (Kept.refl _ x1).drew.trans hk2 (fun _ _ e => e)
          go_wp2_with fail
          refine hK.out _ _ (k2) (fun hHeld => ?_)
          clear hK K
          try simp only [Act.put, List.setIfInBounds_toArray, List.set_cons_zero, List.set_cons_succ]
          refine wpAnyH_done (by kernel_rfl) ?_ _
          have HN : Hid _ := H1.one hv2 k2
          clear hHeld KS KV hv2 hk2 k2 H1 r3 c1 c2
          go_wp2
          go_roundw
          case rel => exact ⟨j + 1, _, by go_num, by omega, by omega, HN.out⟩
          case measure => simp [intOf]; omega
        · have HR : Hid _ := HH.out
          clear HH HM
          by_cases hj1 : j < mlen
          · have t1 : (j : Int) < (mlen : Int) := by omega
            have t2 : ¬ (j : Int) < 12 := by omega
            clear hlt
            go_wp2
            go_meet
            case rel => exact ⟨g1, HR.out⟩
          · have t1 : ¬ (j : Int) < (mlen : Int) := by omega
            clear hlt
            go_wp2
            go_meet
            case rel => exact ⟨g1, HR.out⟩
    case rest =>
      as_aux_lemma =>
      obtain ⟨g1, HS⟩ := hcut
      clear H0 HM hmo
      obtain ⟨w5, hw5⟩ : ∃ w5, wc = w5 := ⟨_, rfl⟩
      rw [hw5] at HS ⊢
      clear hw5
      go_upto_block 4 with fail
      go_cut [14] from 90 to 128 (fun _ wx => ∃ g2 : VwF, Hid (PairIn w p B q N q2 N2 f g1 g2 wx ∧ ∀ k, (g2 k).isSome = true → g1 k = none))
      case first =>
        as_aux_lemma =>
        go_wp2_with fail
        go_loopw [14] (fun i wr => ∃ (j : Nat) (g2 : VwF), i = .int .i64 j ∧ j ≤ nlen ∧ j ≤ 12 ∧ Hid (PairIn w p B q N q2 N2 f g1 g2 wr ∧ ∀ k, (g2 k).isSome = true → g1 k = none)) (fun i _ => 12 - (intOf i).toNat)
        case atStart => exact ⟨0, _, rfl, Nat.zero_le _, Nat.zero_le _, HS.out, fun k h => by cases h⟩
        case round =>
          obtain ⟨j, g2, rfl, hjl, hj12, HH⟩ := hrel
          clear HS HO hoo
          by_cases hlt : j < nlen ∧ j < 12
          · obtain ⟨hj1, hj2⟩ := hlt
            obtain ⟨-, c1, c2, r3⟩ := ask_cells (range_kept (HL.out j hj1) HH.out.1.kept (fun x => x))
            obtain ⟨⟨kd0, ⟨kx, ky⟩, v⟩, hQ⟩ : ∃ t, L j = t := ⟨_, rfl⟩
            rw [hQ] at c1 c2 r3
            simp only at c1 c2 r3
            obtain rfl := hno (by omega)
            have t1 : (j : Int) < (nlen : Int) := by omega
            have t2 : (j : Int) < 12 := by omega
            have hlb : nb ≠ N2 := by have := World.block_lt_of_cell? _ _ (HL.out j hj1 0 _ rfl); have := HH.out.1.nN2; simp at *; omega
            clear HL hQ
            go_upto_region 19 with fail
            go_cut [109] from 100 to 109 (fun v wx => v = .bool (!withinOf [(kx, ky)] (footF g1)) ∧ Kept (fun _ => False) wr wx)
            case first =>
              as_aux_lemma =>
              have KS : ∀ w', Kept (fun _ => False) wr w' → (w'.cell? ⟨nb, noff + j * 20 + 1, none⟩ = some (.int .i64 kx) ∧ w'.cell? ⟨nb, noff + j * 20 + 1 + 1, none⟩ = some (.int .i64 ky)) :=
                fun w' hk' => ⟨hk'.cell c1 (fun x => x), hk'.cell c2 (fun x => x)⟩
              have hfl := foot_len g1
              refine wp_region_held_drew (S := fun w' => Kept (fun _ => False) wr w') (by kernel_rfl) ((Kept.refl _ _).drew) (fun hHeld => ?_)
              refine h_take 0 (some 100) (Op.move (Operand.tmp 2)) 44 ?v21 rfl rfl (by kernel_rfl) (by kernel_rfl) (by kernel_rfl) (fun _ _ _ h => h) ?hy21 hHeld ?_
              case hy21 => (intro _ _ _ w hSw; have hcs := KS _ hSw; go_simp; try with_reducible rfl)
              simp only [Act.put, List.setIfInBounds_toArray, List.set_cons_zero, List.set_cons_succ]
              refine h_take 1 (some 101) (Op.move (Operand.tmp 14)) 3 ?v22 rfl rfl (by kernel_rfl) (by kernel_rfl) (by kernel_rfl) (fun _ _ _ h => h) ?hy22 hHeld ?_
              case hy22 => (intro _ _ _ w hSw; have hcs := KS _ hSw; go_simp; try with_reducible rfl)
              simp only [Act.put, List.setIfInBounds_toArray, List.set_cons_zero, List.set_cons_succ]
              refine h_take 2 (some 102) (Op.indexAddr 44 (Operand.tmp 100) (Operand.tmp 101)) 0 ?v23 rfl rfl (by kernel_rfl) (by kernel_rfl) (by kernel_rfl) (fun _ _ _ h => h) ?hy23 hHeld ?_
              case hy23 => (intro _ _ _ w hSw; have hcs := KS _ hSw; go_simp; try with_reducible rfl)
              simp only [Act.put, List.setIfInBounds_toArray, List.set_cons_zero, List.set_cons_succ]
              refine h_take 3 (some 103) (Op.fieldAddr 50 (Operand.tmp 102) 1) 0 ?v24 rfl rfl (by kernel_rfl) (by kernel_rfl) (by kernel_rfl) (fun _ _ _ h => h) ?hy24 hHeld ?_
              case hy24 => (intro _ _ _ w hSw; have hcs := KS _ hSw; go_simp; try with_reducible rfl)
              simp only [Act.put, List.setIfInBounds_toArray, List.set_cons_zero, List.set_cons_succ]
              refine h_take 4 (some 104) (Op.load 25 (Operand.tmp 103)) 25 ?v25 rfl rfl (by kernel_rfl) (by kernel_rfl) (by kernel_rfl) (fun _ _ _ h => h) ?hy25 hHeld ?_
              case hy25 => (intro _ _ _ w hSw; have hcs := KS _ hSw; go_simp; try with_reducible rfl)
              simp only [Act.put, List.setIfInBounds_toArray, List.set_cons_zero, List.set_cons_succ]
              refine h_take 6 (some 106) (Op.move (Operand.tmp 11)) 31 ?v26 rfl rfl (by kernel_rfl) (by kernel_rfl) (by kernel_rfl) (fun _ _ _ h => h) ?hy26 hHeld ?_
              case hy26 => (intro _ _ _ w hSw; have hcs := KS _ hSw; go_simp; try with_reducible rfl)
              simp only [Act.put, List.setIfInBounds_toArray, List.set_cons_zero, List.set_cons_succ]
              have hv := HH.out.1.v
              have j0 : Kept (fun _ => False) wr wr.drew := (Kept.refl _ _).drew
              obtain ⟨x0, hx0⟩ : ∃ x0, wr.drew = x0 := ⟨_, rfl⟩
              rw [hx0] at j0 hHeld ⊢
              clear hx0
              refine h_two 5 (some 105) (Op.buildSlice 36 1 #[(0, Operand.tmp 104)]) 36 7 (some 107) (Op.call { callee := Callee.value (Operand.func 27), args := #[Operand.tmp 106], argTypes := #[31] }) 36 rfl rfl rfl rfl (by kernel_rfl) (fun _ _ _ K hK => ?_) (fun _ _ _ K hK => ?_)
              · go_simp
                have j1 : Kept (fun _ => False) wr (x0.alloc (.cells #[.int .i64 kx, .int .i64 ky] 25)) := j0.alloc _
                have hn1 : (x0.alloc (.cells #[.int .i64 kx, .int .i64 ky] 25)).heap[x0.heap.size]? = some (.cells #[.int .i64 kx, .int .i64 ky] 25 (0, 0)) := alloc_at _ _
                refine hK.out _ _ (j1) (fun hHeld => ?_)
                clear hK K
                try simp only [Act.put, List.setIfInBounds_toArray, List.set_cons_zero, List.set_cons_succ]
                refine h_step 7 (some 107) (Op.call { callee := Callee.value (Operand.func 27), args := #[Operand.tmp 106], argTypes := #[31] }) 36 rfl rfl (by kernel_rfl) (fun _ _ _ K hK => ?_)
                go_simp
                refine (foot_w q N p g1 _ (hv.still j1)).mono ?_
                rintro e x2 ⟨fv, rfl, ho⟩
                have j2 : Kept (fun _ => False) wr x2 := j1.thru ho.kept
                go_wp2_with fail
                refine hK.out _ _ (j2) (fun hHeld => ?_)
                clear hK K
                try simp only [Act.put, List.setIfInBounds_toArray, List.set_cons_zero, List.set_cons_succ]
                refine h_step 8 (some 108) (Op.call { callee := Callee.value (Operand.func 31), args := #[Operand.tmp 105, Operand.tmp 107], argTypes := #[36, 36] }) 4 rfl rfl (by kernel_rfl) (fun _ _ _ K hK => ?_)
                go_simp
                refine (within_w _ _ [(kx, ky)] (footF g1) (by simp) (by omega) x2 ((SrcK.lone hn1).kept ho.kept) ho.src).mono ?_
                rintro e x3 ⟨rfl, hk3⟩
                have j3 : Kept (fun _ => False) wr x3 := j2.thru hk3
                go_wp2_with fail
                refine hK.out _ _ (j3) (fun hHeld => ?_)
                clear hK K
                try simp only [Act.put, List.setIfInBounds_toArray, List.set_cons_zero, List.set_cons_succ]
                refine h_take 9 (some 109) (Op.unOp UnOp.not 4 (Operand.tmp 108)) 4 (.bool (!withinOf [(kx, ky)] (footF g1))) rfl rfl (by kernel_rfl) (by kernel_rfl) (by kernel_rfl) (fun _ _ _ h => h) ?_ hHeld ?_
                · intro _ _ _ w hSw; have hcs := KS _ hSw; go_simp
                simp only [Act.put, List.setIfInBounds_toArray, List.set_cons_zero, List.set_cons_succ]
                refine wpAnyH_done (by kernel_rfl) ?_ _
                clear hHeld KS hn1 ho hv j0 j1 j2 hk3
                go_wp2
                go_meet
                case rel => exact ⟨rfl, j3⟩
              · go_simp
                refine (foot_w q N p g1 _ (hv.still j0)).mono ?_
                rintro e x2 ⟨fv, rfl, ho⟩
                have j2 : Kept (fun _ => False) wr x2 := j0.thru ho.kept
                go_wp2_with fail
                refine hK.out _ _ (j2) (fun hHeld => ?_)
                clear hK K
                try simp only [Act.put, List.setIfInBounds_toArray, List.set_cons_zero, List.set_cons_succ]
                refine h_step 5 (some 105) (Op.buildSlice 36 1 #[(0, Operand.tmp 104)]) 36 rfl rfl (by kernel_rfl) (fun _ _ _ K hK => ?_)
                go_simp
                have hn1 : (x2.alloc (.cells #[.int .i64 kx, .int .i64 ky] 25)).heap[x2.heap.size]? = some (.cells #[.int .i64 kx, .int .i64 ky] 25 (0, 0)) := alloc_at _ _
                have j1 : Kept (fun _ => False) wr (x2.alloc (.cells #[.int .i64 kx, .int .i64 ky] 25)) := j2.alloc _
                refine hK.out _ _ (j1) (fun hHeld => ?_)
                clear hK K
                try simp only [Act.put, List.setIfInBounds_toArray, List.set_cons_zero, List.set_cons_succ]
                refine h_step 8 (some 108) (Op.call { callee := Callee.value (Operand.func 31), args := #[Operand.tmp 105, Operand.tmp 107], argTypes := #[36, 36] }) 4 rfl rfl (by kernel_rfl) (fun _ _ _ K hK => ?_)
                go_simp
                refine (within_w _ _ [(kx, ky)] (footF g1) (by simp) (by omega) _ (SrcK.lone hn1) (ho.src.kept ((Kept.refl _ _).alloc _))).mono ?_
                rintro e x3 ⟨rfl, hk3⟩
                have j3 : Kept (fun _ => False) wr x3 := j1.thru hk3
                go_wp2_with fail
                refine hK.out _ _ (j3) (fun hHeld => ?_)
                clear hK K
                try simp only [Act.put, List.setIfInBounds_toArray, List.set_cons_zero, List.set_cons_succ]
                refine h_take 9 (some 109) (Op.unOp UnOp.not 4 (Operand.tmp 108)) 4 (.bool (!withinOf [(kx, ky)] (footF g1))) rfl rfl (by kernel_rfl) (by kernel_rfl) (by kernel_rfl) (fun _ _ _ h => h) ?_ hHeld ?_
                · intro _ _ _ w hSw; have hcs := KS _ hSw; go_simp
                simp only [Act.put, List.setIfInBounds_toArray, List.set_cons_zero, List.set_cons_succ]
                refine wpAnyH_done (by kernel_rfl) ?_ _
                clear hHeld KS hn1 ho hv j0 j1 j2 hk3
                go_wp2
                go_meet
                case rel => exact ⟨rfl, j3⟩
            case rest =>
              as_aux_lemma =>
              obtain ⟨rfl, kx0⟩ := hcut
              obtain ⟨x0, hx0⟩ : ∃ x0, wc = x0 := ⟨_, rfl⟩
              rw [hx0] at kx0 ⊢
              clear hx0
              replace c1 := kx0.cell c1 (fun x => x)
              replace c2 := kx0.cell c2 (fun x => x)
              replace r3 := range_kept r3 kx0 (fun x => x)
              have H1 := HH.out.1.still kx0
              have HA := HH.out.2
              clear kx0 HH
              cases hb : withinOf [(kx, ky)] (footF g1) with
              | true =>
                have HR : Hid (PairIn w p B q N q2 N2 f g1 g2 x0 ∧ ∀ k, (g2 k).isSome = true → g1 k = none) := ⟨H1, HA⟩
                clear hb c1 c2 r3 H1 HA
                go_wp2
                go_roundw
                case rel => exact ⟨j + 1, _, by go_num, by omega, by omega, HR.out⟩
                case measure => simp [intOf]; omega
              | false =>
                have hno1 : Hid (g1 (kx, ky) = none) := foot_within H1.v.good hb
                clear hb
                go_wp2_with fail
                refine (vget_w q2 N2 p B f g2 kx ky x0 H1.v2 H1.s H1.a2).mono ?_
                rintro e x1 ⟨rfl, hv1, k1⟩
                have H2 := H1.two hv1 k1
                replace c1 := k1.cell c1 hlb
                replace c2 := k1.cell c2 hlb
                replace r3 := range_kept r3 k1 hlb
                clear H1 k1 hv1
                go_wp2_with fail
                have KS : ∀ w', Kept (fun n => n = N2) x1 w' → (w'.cell? ⟨nb, noff + j * 20 + 1, none⟩ = some (.int .i64 kx) ∧ w'.cell? ⟨nb, noff + j * 20 + 1 + 1, none⟩ = some (.int .i64 ky)) :=
                  fun w' hk' => ⟨hk'.cell c1 hlb, hk'.cell c2 hlb⟩
                have KV : ∀ w', Kept (fun n => n = N2) x1 w' → w'.rangeAt nb (noff + j * 20 + 3) (vc v) := fun w' hk' => range_kept r3 hk' hlb
                refine wp_region_held_drew (S := fun w' => Kept (fun n => n = N2) x1 w') (by kernel_rfl) ((Kept.refl _ _).drew) (fun hHeld => ?_)
                refine h_take 0 (some 117) (Op.move (Operand.tmp 12)) 31 ?v27 rfl rfl (by kernel_rfl) (by kernel_rfl) (by kernel_rfl) (fun _ _ _ h => h) ?hy27 hHeld ?_
                case hy27 => (intro _ _ _ w hSw; have hcs := KS _ hSw; go_simp; try with_reducible rfl)
                simp only [Act.put, List.setIfInBounds_toArray, List.set_cons_zero, List.set_cons_succ]
                refine h_take 1 (some 118) (Op.move (Operand.tmp 2)) 44 ?v28 rfl rfl (by kernel_rfl) (by kernel_rfl) (by kernel_rfl) (fun _ _ _ h => h) ?hy28 hHeld ?_
                case hy28 => (intro _ _ _ w hSw; have hcs := KS _ hSw; go_simp; try with_reducible rfl)
                simp only [Act.put, List.setIfInBounds_toArray, List.set_cons_zero, List.set_cons_succ]
                refine h_take 2 (some 119) (Op.move (Operand.tmp 14)) 3 ?v29 rfl rfl (by kernel_rfl) (by kernel_rfl) (by kernel_rfl) (fun _ _ _ h => h) ?hy29 hHeld ?_
                case hy29 => (intro _ _ _ w hSw; have hcs := KS _ hSw; go_simp; try with_reducible rfl)
                simp only [Act.put, List.setIfInBounds_toArray, List.set_cons_zero, List.set_cons_succ]
                refine h_take 3 (some 120) (Op.indexAddr 44 (Operand.tmp 118) (Operand.tmp 119)) 0 ?v30 rfl rfl (by kernel_rfl) (by kernel_rfl) (by kernel_rfl) (fun _ _ _ h => h) ?hy30 hHeld ?_
                case hy30 => (intro _ _ _ w hSw; have hcs := KS _ hSw; go_simp; try with_reducible rfl)
                simp only [Act.put, List.setIfInBounds_toArray, List.set_cons_zero, List.set_cons_succ]
                refine h_take 4 (some 121) (Op.fieldAddr 50 (Operand.tmp 120) 1) 0 ?v31 rfl rfl (by kernel_rfl) (by kernel_rfl) (by kernel_rfl) (fun _ _ _ h => h) ?hy31 hHeld ?_
                case hy31 => (intro _ _ _ w hSw; have hcs := KS _ hSw; go_simp; try with_reducible rfl)
                simp only [Act.put, List.setIfInBounds_toArray, List.set_cons_zero, List.set_cons_succ]
                refine h_take 5 (some 122) (Op.load 25 (Operand.tmp 121)) 25 ?v32 rfl rfl (by kernel_rfl) (by kernel_rfl) (by kernel_rfl) (fun _ _ _ h => h) ?hy32 hHeld ?_
                case hy32 => (intro _ _ _ w hSw; have hcs := KS _ hSw; go_simp; try with_reducible rfl)
                simp only [Act.put, List.setIfInBounds_toArray, List.set_cons_zero, List.set_cons_succ]
                refine h_take 6 (some 123) (Op.move (Operand.tmp 2)) 44 ?v33 rfl rfl (by kernel_rfl) (by kernel_rfl) (by kernel_rfl) (fun _ _ _ h => h) ?hy33 hHeld ?_
                case hy33 => (intro _ _ _ w hSw; have hcs := KS _ hSw; go_simp; try with_reducible rfl)
                simp only [Act.put, List.setIfInBounds_toArray, List.set_cons_zero, List.set_cons_succ]
                refine h_take 7 (some 124) (Op.move (Operand.tmp 14)) 3 ?v34 rfl rfl (by kernel_rfl) (by kernel_rfl) (by kernel_rfl) (fun _ _ _ h => h) ?hy34 hHeld ?_
                case hy34 => (intro _ _ _ w hSw; have hcs := KS _ hSw; go_simp; try with_reducible rfl)
                simp only [Act.put, List.setIfInBounds_toArray, List.set_cons_zero, List.set_cons_succ]
                refine h_take 8 (some 125) (Op.indexAddr 44 (Operand.tmp 123) (Operand.tmp 124)) 0 ?v35 rfl rfl (by kernel_rfl) (by kernel_rfl) (by kernel_rfl) (fun _ _ _ h => h) ?hy35 hHeld ?_
                case hy35 => (intro _ _ _ w hSw; have hcs := KS _ hSw; go_simp; try with_reducible rfl)
                simp only [Act.put, List.setIfInBounds_toArray, List.set_cons_zero, List.set_cons_succ]
                refine h_take 9 (some 126) (Op.fieldAddr 50 (Operand.tmp 125) 2) 0 ?v36 rfl rfl (by kernel_rfl) (by kernel_rfl) (by kernel_rfl) (fun _ _ _ h => h) ?hy36 hHeld ?_
                case hy36 => (intro _ _ _ w hSw; have hcs := KS _ hSw; go_simp; try with_reducible rfl)
                simp only [Act.put, List.setIfInBounds_toArray, List.set_cons_zero, List.set_cons_succ]
                refine h_take 10 (some 127) (Op.load 29 (Operand.tmp 126)) 29 (vv v) rfl rfl (by kernel_rfl) (by kernel_rfl) (by kernel_rfl) (fun _ _ _ h => h) (fun _ _ _ w hSw => exec_load rfl (load_wide wide_V (KV w hSw) rfl)) hHeld ?_
                simp only [Act.put, List.setIfInBounds_toArray, List.set_cons_zero, List.set_cons_succ]
                refine h_step 11 (some 128) (Op.call { callee := Callee.value (Operand.func 12), args := #[Operand.tmp 117, Operand.tmp 122, Operand.tmp 127], argTypes := #[31, 25, 29] }) 0 rfl rfl (by kernel_rfl) (fun _ _ _ K hK => ?_)
                go_simp
                refine (vput_w q2 N2 p (vgetT g2 (kx, ky)) kx ky v x1.drew (H2.v2.still (Kept.refl _ _).drew)).mono ?_
                rintro e x2 ⟨rfl, hv2, hk2⟩
                have k2 : Kept (fun n => n = N2) x1 x2 := (Kept.refl _ x1).drew.trans hk2 (fun _ _ e => e)
                go_wp2_with fail
                refine hK.out _ _ (k2) (fun hHeld => ?_)
                clear hK K
                try simp only [Act.put, List.setIfInBounds_toArray, List.set_cons_zero, List.set_cons_succ]
                refine wpAnyH_done (by kernel_rfl) ?_ _
                have HN : Hid (PairIn w p B q N q2 N2 f g1 (vputT (vgetT g2 (kx, ky)) (kx, ky) v) x2 ∧ ∀ k, (vputT (vgetT g2 (kx, ky)) (kx, ky) v k).isSome = true → g1 k = none) := ⟨H2.two hv2 k2, apart_put (apart_get HA hno1.out) hno1.out⟩
                clear hHeld KS KV hv2 hk2 k2 H2 r3 c1 c2 HA
                go_wp2
                go_roundw
                case rel => exact ⟨j + 1, _, by go_num, by omega, by omega, HN.out⟩
                case measure => simp [intOf]; omega
          · have HR : Hid _ := HH.out
            clear HH HL
            by_cases hj1 : j < nlen
            · have t1 : (j : Int) < (nlen : Int) := by omega
              have t2 : ¬ (j : Int) < 12 := by omega
              clear hlt
              go_wp2
              go_meet
              case rel => exact ⟨g2, HR.out⟩
            · have t1 : ¬ (j : Int) < (nlen : Int) := by omega
              clear hlt
              go_wp2
              go_meet
              case rel => exact ⟨g2, HR.out⟩
      case rest =>
        as_aux_lemma =>
        obtain ⟨g2, HH⟩ := hcut
        clear HS HL hno
        obtain ⟨w6, hw6⟩ : ∃ w6, wc = w6 := ⟨_, rfl⟩
        rw [hw6] at HH ⊢
        clear hw6
        have hP := HH.out.1
        have HA : Hid (((redoF g1 ++ redoF g2).map Prod.fst).Nodup) := apart_nodup HH.out.2
        clear HH
        go_wp2_with fail
        refine (redo_w q N p g1 w6 hP.v).mono ?_
        rintro e x1 ⟨pv, rfl, hp1⟩
        go_wp2_with fail
        refine (redo_w q2 N2 p g2 x1 (hP.v2.still hp1.kept)).mono ?_
        rintro e x2 ⟨qv, rfl, hq1⟩
        have hP2 := (hP.still hp1.kept).still hq1.kept
        go_wp2_with fail
        refine (twin_w p B f x2 hP2.s).mono ?_
        rintro e x3 ⟨p3, B3, rfl, hT3, k3, hp3, hB3⟩
        go_wp2_with fail
        refine (twin_w p B f x3 (hP2.s.still k3)).mono ?_
        rintro e x4 ⟨p4, B4, rfl, hT4, k4, hp4, hB4⟩
        have HO4 : Hid (OutIn w p3 B3 p4 B4 f f x4) := by
          have l3 := hT3.map.lt
          have s2 := hP2.kept.size
          have s3 := k3.size
          exact ⟨hT3.still k4, hT4, (hP2.kept.thru k3).thru k4, by omega, by omega, by omega⟩
        have hsp : SrcW pv (redoF g1) x4 := (OwnR.src wc_length hp1).kept ((hq1.kept.thru k3).thru k4)
        have hsq : SrcW qv (redoF g2) x4 := (OwnR.src wc_length hq1).kept (k3.thru k4)
        have lP : (redoF g1).length ≤ 55 := by rw [redo_len]; exact upto_len _ _
        have lQ : (redoF g2).length ≤ 55 := by rw [redo_len]; exact upto_len _ _
        obtain ⟨P, hPP⟩ : ∃ P, redoF g1 = P := ⟨_, rfl⟩
        obtain ⟨R, hRR⟩ : ∃ R, redoF g2 = R := ⟨_, rfl⟩
        rw [hPP] at hsp lP HA
        rw [hRR] at hsq lQ HA
        clear hPP hRR hp1 hq1 hP hP2 hT3 hT4 k3 k4
        obtain ⟨E, hE⟩ : ∃ E : Nat, x4.heap.size = E := ⟨_, rfl⟩
        have HE0 : Hid (OwnW x4 (.slice (some ⟨E, 0, none⟩) 0 0) [] (x4.alloc (.cells #[] 40))) := OwnR.made (Kept.refl _ _) hE 40
        have HP0 : Hid (SrcW pv P (x4.alloc (.cells #[] 40))) := hsp.kept ((Kept.refl _ _).alloc _)
        obtain ⟨n, hn⟩ : ∃ n : Nat, (P ++ R).length = n := ⟨_, rfl⟩
        have ln : n ≤ 110 := by rw [← hn, List.length_append]; omega
        have HSQ : Hid (SrcW qv R x4) := hsq
        have HSP : Hid (SrcW pv P x4) := hsp
        clear hsp hsq
        go_upto_block 6 with (at_builtin; first
          | (refine list_appw rfl _ _ rfl x4 [] P HE0.out HP0.out (by simp; omega) ?_; intro lv1 x5 h5 hg5; have h5' : Hid (OwnW x4 lv1 P x5) := h5; clear h5 hg5 HE0 HP0)
          | (refine list_appw rfl _ _ rfl x4 P R h5'.out (HSQ.out.kept h5'.out.kept) (by omega) ?_; intro lv2 x6 h6 hg6; have h6' : Hid (OwnW x4 lv2 (P ++ R) x6) := h6; (obtain ⟨lao, lc, rfl⟩ := OwnR.shape h6); rw [hn] at h6' ⊢; clear h6 hg6 h5'))
        have H6 : Hid (OutIn w p3 B3 p4 B4 (putAll f ((P ++ R).take 0)) f x6 ∧ SrcW (.slice lao n lc) (P ++ R) x6 ∧ SrcW pv P x6 ∧ SrcW qv R x6) :=
          ⟨HO4.out.still h6'.out.kept, OwnR.src wc_length h6'.out, HSP.out.kept h6'.out.kept, HSQ.out.kept h6'.out.kept⟩
        clear h6' HO4 HSP HSQ
        go_cut [20, 149] from 150 to 159 (fun _ _ wx => Hid (OutIn w p3 B3 p4 B4 (putAll f (P ++ R)) f wx ∧ SrcW pv P wx ∧ SrcW qv R wx))
        case first =>
          as_aux_lemma =>
          go_wp2_with fail
          go_loopw [149] (fun i wr => ∃ j : Nat, i = .int .i64 j ∧ j ≤ n ∧ Hid (OutIn w p3 B3 p4 B4 (putAll f ((P ++ R).take j)) f wr ∧ SrcW (.slice lao n lc) (P ++ R) wr ∧ SrcW pv P wr ∧ SrcW qv R wr)) (fun i _ => n - (intOf i).toNat)
          case atStart => exact ⟨0, rfl, Nat.zero_le _, H6.out⟩
          case round =>
            obtain ⟨j, rfl, hj, HH⟩ := hrel
            clear H6 HO hoo HA
            by_cases hlt : j < n
            · have t1 : (j : Int) < (n : Int) := by omega
              have t0 : (0 : Int) ≤ (j : Int) := by omega
              obtain ⟨la, lb2, lo2, lc2, e1, -, hla, -, hrow⟩ := HH.out.2.1
              simp only [Value.slice.injEq] at e1
              obtain ⟨rfl, -, rfl⟩ := e1
              obtain rfl := hla (by omega)
              have hjl : j < (P ++ R).length := by omega
              have r1 := hrow j _ (List.getElem?_eq_getElem hjl)
              have HT : Hid _ := take_putAll f hjl
              obtain ⟨⟨⟨kx, ky⟩, v⟩, ht⟩ : ∃ t, (P ++ R)[j] = t := ⟨_, rfl⟩
              rw [ht] at r1 HT
              obtain ⟨D, hD⟩ : ∃ D : Nat, wr.heap.size = D := ⟨_, rfl⟩
              obtain ⟨x1, h1⟩ : ∃ x1, wr.alloc (.cells (Go.Proofs.Ytehifngelkenaaa.wc ((kx, ky), v)).toArray 40) = x1 := ⟨_, rfl⟩
              have k1 : Kept (fun _ => False) wr x1 := by subst h1; exact (Kept.refl _ _).alloc _
              have hD1 : x1.heap[D]? = some (.cells (Go.Proofs.Ytehifngelkenaaa.wc ((kx, ky), v)).toArray 40 (0, 0)) := by subst h1; exact alloc_at' _ hD
              obtain ⟨c0, c1, r2⟩ := write_cells (whole_range hD1)
              simp only [Nat.zero_add] at c0 c1 r2
              clear hrow hla ht
              go_wp2_with (first
                | (refine list_wload rfl wide_W _ rfl _ _ rfl (Go.Proofs.Ytehifngelkenaaa.wc ((kx, ky), v)) r1 rfl ?_)
                | (refine list_wnew rfl wide_W _ _ rfl D rfl (Go.Proofs.Ytehifngelkenaaa.wc ((kx, ky), v)) rfl _ rfl hD rfl (wc_one _) ?_)
                | (refine list_wload rfl wide_V _ rfl D 2 rfl (vc v) r2 rfl ?_))
              refine (put_w p3 B3 _ kx ky v x1 (HH.out.1.t.still k1)).mono ?_
              rintro e y2 ⟨rfl, hs2, hk2⟩
              have hm := (HH.out.1.t.still k1).map
              have HN : Hid (OutIn w p3 B3 p4 B4 (putAll f ((P ++ R).take (j + 1))) f y2 ∧ SrcW (.slice (some ⟨lb2, lo2, none⟩) n lc) (P ++ R) y2 ∧ SrcW pv P y2 ∧ SrcW qv R y2) :=
                ⟨by rw [HT.out]; exact (HH.out.1.still k1).putT hs2 hk2, (HH.out.2.1.kept k1).keptM wc_pos hm hk2, (HH.out.2.2.1.kept k1).keptM wc_pos hm hk2, (HH.out.2.2.2.kept k1).keptM wc_pos hm hk2⟩
              clear HH HT hs2 hk2 hm h1 k1 hD1 c0 c1 r1 r2
              go_wp2
              go_roundw
              case rel => exact ⟨j + 1, by go_num, by omega, HN.out⟩
              case measure => simp [intOf]; omega
            · obtain rfl : j = n := by omega
              have HR : Hid (OutIn w p3 B3 p4 B4 (putAll f (P ++ R)) f wr ∧ SrcW pv P wr ∧ SrcW qv R wr) := by
                have := HH.out
                rw [List.take_of_length_le (by omega)] at this
                exact ⟨this.1, this.2.2.1, this.2.2.2⟩
              clear HH
              go_wp2
              go_meet
              case rel => exact HR.out
        case rest =>
          as_aux_lemma =>
          have H7 : Hid (OutIn w p3 B3 p4 B4 (putAll f (P ++ R)) (putAll f []) wc ∧ SrcW pv P wc ∧ SrcW qv R wc ∧ ([] ++ P ++ R).Perm (P ++ R)) := ⟨hcut.out.1, hcut.out.2.1, hcut.out.2.2, List.Perm.refl _⟩
          clear hcut H6
          rw [List.length_append] at hn
          go_upto_block 8 with fail
          go_cut [15, 16, 21, 22] from 160 to 212 (fun _ _ _ _ wx => Hid (OutIn w p3 B3 p4 B4 (putAll f (P ++ R)) (putAll f (P ++ R)) wx))
          case first =>
            as_aux_lemma =>
            go_wp2_with fail
            go_loopw [15, 16, 21] (fun a b i wr => ∃ (j : Nat) (P' R' d : Ws), i = .int .i64 j ∧ j + (P'.length + R'.length) = n ∧ Hid (OutIn w p3 B3 p4 B4 (putAll f (P ++ R)) (putAll f d) wr ∧ SrcW a P' wr ∧ SrcW b R' wr ∧ (d ++ P' ++ R').Perm (P ++ R))) (fun a b _ _ => lenV a + lenV b)
            case atStart => exact ⟨0, P, R, [], rfl, by omega, H7.out⟩
            case round =>
              obtain ⟨j, P', R', d, rfl, hjn, HH⟩ := hrel
              clear H7
              obtain ⟨pa, pb, po, pc, rfl, -, hpa, hpc, hprow⟩ := HH.out.2.1
              obtain ⟨qa, qb, qo, qc, rfl, -, hqa, hqc, hqrow⟩ := HH.out.2.2.1
              have HP : Hid (∀ j a, P'[j]? = some a → wr.rangeAt pb (po + j * 19) (Go.Proofs.Ytehifngelkenaaa.wc a)) := hprow
              have HQ : Hid (∀ j a, R'[j]? = some a → wr.rangeAt qb (qo + j * 19) (Go.Proofs.Ytehifngelkenaaa.wc a)) := hqrow
              clear hprow hqrow
              obtain ⟨pl, hpl⟩ : ∃ pl : Nat, P'.length = pl := ⟨_, rfl⟩
              obtain ⟨ql, hql⟩ : ∃ ql : Nat, R'.length = ql := ⟨_, rfl⟩
              have HPL : Hid (P'.length = pl) := hpl
              have HQL : Hid (R'.length = ql) := hql
              rw [hpl] at hpa hpc hjn ⊢
              rw [hql] at hqa hqc hjn ⊢
              clear hpl hql
              by_cases hz : pl + ql = 0
              · have hp0 : pl = 0 := by omega
                have hq0 : ql = 0 := by omega
                have HR : Hid (OutIn w p3 B3 p4 B4 (putAll f (P ++ R)) (putAll f (P ++ R)) wr) := by
                  have hh := HH.out
                  obtain rfl : P' = [] := List.eq_nil_of_length_eq_zero (by rw [HPL.out]; exact hp0)
                  obtain rfl : R' = [] := List.eq_nil_of_length_eq_zero (by rw [HQL.out]; exact hq0)
                  simp only [List.append_nil] at hh
                  have e := putAll_perm f (HA.out) hh.2.2.2.symm
                  show OutIn _ _ _ _ _ _ _ _
                  have h1 := hh.1
                  rw [← e] at h1
                  exact h1
                clear HH HA HP HQ hpa hqa
                subst hp0 hq0
                go_wp2
                go_meet
                case rel => exact HR.out
              · have tz : (0 : Int) < (pl : Int) + (ql : Int) := by omega
                clear HA
                go_upto_region 34 with fail
                go_cut [22] from 168 to 177 (fun v wx => ∃ s : Bool, v = .bool s ∧ wx = wr)
                case first =>
                  as_aux_lemma =>
                  by_cases hlt : j < olen
                  · have c0 := HH.out.1.kept.cell (HO.out j hlt) (fun x => x)
                    obtain rfl := hoo (by omega)
                    have t1 : (j : Int) < (olen : Int) := by omega
                    generalize O j = s at c0
                    clear HO HH HP HQ
                    go_wp2
                    go_meet
                    case rel => exact ⟨s, rfl, rfl⟩
                  · have t1 : ¬ (j : Int) < (olen : Int) := by omega
                    clear HO HH HP HQ
                    go_wp2
                    go_meet
                    case rel => exact ⟨false, rfl, rfl⟩
                case rest =>
                  obtain ⟨s, rfl, hwc⟩ := hcut
                  subst hwc
                  go_upto_region 35 with fail
                  go_cut [22, 188] from 160 to 188 (fun _ v wx => wx = wc ∧ ((v = .bool true ∧ 0 < ql) ∨ (v = .bool false ∧ 0 < pl)))
                  case first =>
                    as_aux_lemma =>
                    clear HO HH HP HQ hpa hqa
                    by_cases hp0 : pl = 0
                    · have hq0 : Hid (0 < ql) := by show 0 < ql; omega
                      have tp : ((pl : Int) == 0) = true := by simp; omega
                      clear hp0 hz tz hpc hjn HPL
                      go_wp2
                      go_meet
                      case rel => exact ⟨rfl, .inl ⟨rfl, hq0.out⟩⟩
                    · have tp : ((pl : Int) == 0) = false := by simp; omega
                      have hp1 : Hid (0 < pl) := by show 0 < pl; omega
                      clear hp0 hpc hqc hjn hz tz
                      cases s with
                      | false =>
                        go_wp2
                        go_meet
                        case rel => exact ⟨rfl, .inr ⟨rfl, hp1.out⟩⟩
                      | true =>
                        by_cases hq0 : 0 < ql
                        · have tq : decide (0 < (ql : Int)) = true := by simpa using hq0
                          have HQ0 : Hid (0 < ql) := hq0
                          go_wp2
                          go_meet
                          case rel => exact ⟨rfl, .inl ⟨rfl, HQ0.out⟩⟩
                        · have tq : decide (0 < (ql : Int)) = false := by simpa using hq0
                          go_wp2
                          go_meet
                          case rel => exact ⟨rfl, .inr ⟨rfl, hp1.out⟩⟩
                  case rest =>
                    obtain ⟨hwx, hor⟩ := hcut
                    have hwx' := hwx.symm
                    subst hwx'
                    rcases hor with ⟨rfl, hq1⟩ | ⟨rfl, hp1⟩
                    ·
                      as_aux_lemma =>
                      clear HO
                      obtain rfl := hqa hq1
                      obtain ⟨⟨⟨⟨kx, ky⟩, v⟩, T'⟩, hT⟩ : ∃ c : (K2 × V) × Ws, R' = c.1 :: c.2 := by
                        cases h : R' with
                        | nil => have := HQL.out; rw [h] at this; simp at this; omega
                        | cons a r => exact ⟨(a, r), rfl⟩
                      simp only at hT
                      have r0 := HQ.out 0 ((kx, ky), v) (by rw [hT]; rfl)
                      rw [Nat.zero_mul, Nat.add_zero] at r0
                      obtain ⟨c0, c1, r2⟩ := write_cells r0
                      simp only at c0 c1 r2
                      have hsrc := HH.out.2.2.1
                      rw [hT] at hsrc
                      obtain ⟨htail, -, hc1⟩ := SrcR.tail hsrc
                      have htl : (ql : Nat) = T'.length + 1 := by have := HQL.out; rw [hT] at this; simpa using this.symm
                      have hoth := HH.out.2.1
                      have hperm : ((d ++ [((kx, ky), v)]) ++ P' ++ T').Perm (P ++ R) := take_perm2 (by have := HH.out.2.2.2; rw [hT] at this; exact this)
                      have hout := HH.out.1
                      have hb : qb ≠ B4 := by
                        intro e
                        have hcell := c0
                        rw [e] at hcell
                        obtain ⟨es, clock, hb, _⟩ := hout.u.map
                        simp [World.cell?, hb] at hcell
                      have t0 : (0 : Int) < (ql : Int) := by omega
                      clear HH HP HQ hqa
                      go_wp2_with fail
                      have KS : ∀ w', Kept (fun n => n = B4) wc w' → (w'.cell? ⟨qb, qo, none⟩ = some (.int .i64 kx) ∧ w'.cell? ⟨qb, qo + 1, none⟩ = some (.int .i64 ky)) :=
                        fun w' hk' => ⟨hk'.cell c0 hb, hk'.cell c1 hb⟩
                      have KV : ∀ w', Kept (fun n => n = B4) wc w' → w'.rangeAt qb (qo + 2) (vc v) := fun w' hk' => range_kept r2 hk' hb
                      refine wp_region_held_drew (S := fun w' => Kept (fun n => n = B4) wc w') (by kernel_rfl) ((Kept.refl _ _).drew) (fun hHeld => ?_)
                      refine h_take 0 (some 189) (Op.move (Operand.tmp 18)) 22 ?v37 rfl rfl (by kernel_rfl) (by kernel_rfl) (by kernel_rfl) (fun _ _ _ h => h) ?hy37 hHeld ?_
                      case hy37 => (intro _ _ _ w hSw; have hcs := KS _ hSw; go_simp; try with_reducible rfl)
                      simp only [Act.put, List.setIfInBounds_toArray, List.set_cons_zero, List.set_cons_succ]
                      refine h_take 1 (some 190) (Op.move (Operand.tmp 16)) 41 ?v38 rfl rfl (by kernel_rfl) (by kernel_rfl) (by kernel_rfl) (fun _ _ _ h => h) ?hy38 hHeld ?_
                      case hy38 => (intro _ _ _ w hSw; have hcs := KS _ hSw; go_simp; try with_reducible rfl)
                      simp only [Act.put, List.setIfInBounds_toArray, List.set_cons_zero, List.set_cons_succ]
                      refine h_take 2 (some 191) (Op.indexAddr 41 (Operand.tmp 190) (Operand.const (Value.int IntKind.i64 0))) 0 ?v39 rfl rfl (by kernel_rfl) (by kernel_rfl) (by kernel_rfl) (fun _ _ _ h => h) ?hy39 hHeld ?_
                      case hy39 => (intro _ _ _ w hSw; have hcs := KS _ hSw; go_simp; try with_reducible rfl)
                      simp only [Act.put, List.setIfInBounds_toArray, List.set_cons_zero, List.set_cons_succ]
                      refine h_take 3 (some 192) (Op.fieldAddr 40 (Operand.tmp 191) 0) 0 ?v40 rfl rfl (by kernel_rfl) (by kernel_rfl) (by kernel_rfl) (fun _ _ _ h => h) ?hy40 hHeld ?_
                      case hy40 => (intro _ _ _ w hSw; have hcs := KS _ hSw; go_simp; try with_reducible rfl)
                      simp only [Act.put, List.setIfInBounds_toArray, List.set_cons_zero, List.set_cons_succ]
                      refine h_take 4 (some 193) (Op.load 25 (Operand.tmp 192)) 25 ?v41 rfl rfl (by kernel_rfl) (by kernel_rfl) (by kernel_rfl) (fun _ _ _ h => h) ?hy41 hHeld ?_
                      case hy41 => (intro _ _ _ w hSw; have hcs := KS _ hSw; go_simp; try with_reducible rfl)
                      simp only [Act.put, List.setIfInBounds_toArray, List.set_cons_zero, List.set_cons_succ]
                      refine h_take 5 (some 194) (Op.move (Operand.tmp 16)) 41 ?v42 rfl rfl (by kernel_rfl) (by kernel_rfl) (by kernel_rfl) (fun _ _ _ h => h) ?hy42 hHeld ?_
                      case hy42 => (intro _ _ _ w hSw; have hcs := KS _ hSw; go_simp; try with_reducible rfl)
                      simp only [Act.put, List.setIfInBounds_toArray, List.set_cons_zero, List.set_cons_succ]
                      refine h_take 6 (some 195) (Op.indexAddr 41 (Operand.tmp 194) (Operand.const (Value.int IntKind.i64 0))) 0 ?v43 rfl rfl (by kernel_rfl) (by kernel_rfl) (by kernel_rfl) (fun _ _ _ h => h) ?hy43 hHeld ?_
                      case hy43 => (intro _ _ _ w hSw; have hcs := KS _ hSw; go_simp; try with_reducible rfl)
                      simp only [Act.put, List.setIfInBounds_toArray, List.set_cons_zero, List.set_cons_succ]
                      refine h_take 7 (some 196) (Op.fieldAddr 40 (Operand.tmp 195) 1) 0 ?v44 rfl rfl (by kernel_rfl) (by kernel_rfl) (by kernel_rfl) (fun _ _ _ h => h) ?hy44 hHeld ?_
                      case hy44 => (intro _ _ _ w hSw; have hcs := KS _ hSw; go_simp; try with_reducible rfl)
                      simp only [Act.put, List.setIfInBounds_toArray, List.set_cons_zero, List.set_cons_succ]
                      refine h_take 8 (some 197) (Op.load 29 (Operand.tmp 196)) 29 (vv v) rfl rfl (by kernel_rfl) (by kernel_rfl) (by kernel_rfl) (fun _ _ _ h => h) (fun _ _ _ w hSw => exec_load rfl (load_wide wide_V (KV w hSw) rfl)) hHeld ?_
                      simp only [Act.put, List.setIfInBounds_toArray, List.set_cons_zero, List.set_cons_succ]
                      refine h_step 9 (some 198) (Op.call { callee := Callee.value (Operand.func 8), args := #[Operand.tmp 189, Operand.tmp 193, Operand.tmp 197], argTypes := #[22, 25, 29] }) 4 rfl rfl (by kernel_rfl) (fun _ _ _ K hK => ?_)
                      go_simp
                      refine (put_w p4 B4 _ kx ky v wc.drew (hout.u.still (Kept.refl _ _).drew)).mono ?_
                      rintro e y2 ⟨rfl, hs2, hk2⟩
                      have k2 : Kept (fun n => n = B4) wc y2 := (Kept.refl _ wc).drew.trans hk2 (fun _ _ e => e)
                      go_wp2_with fail
                      refine hK.out _ _ (k2) (fun hHeld => ?_)
                      clear hK K
                      try simp only [Act.put, List.setIfInBounds_toArray, List.set_cons_zero, List.set_cons_succ]
                      refine wpAnyH_done (by kernel_rfl) ?_ _
                      have HN : Hid (OutIn w p3 B3 p4 B4 (putAll f (P ++ R)) (putAll f (d ++ [((kx, ky), v)])) y2) := by
                        show OutIn _ _ _ _ _ _ _ _
                        rw [show putAll f (d ++ [((kx, ky), v)]) = putF (putAll f d) (kx, ky) v by rw [putAll_app]; rfl]
                        exact hout.putU hs2 k2
                      have HT2 : Hid (SrcW (.slice (some (if qc - 1 = 0 then ⟨qb, qo, none⟩ else (⟨qb, qo, none⟩ : Addr).add (1 * 19))) (ql - 1) (qc - 1)) T' y2) := by
                        have := htail.keptM wc_pos hout.u.map k2
                        rw [show ((((kx, ky), v) :: T').length - 1) = ql - 1 by rw [htl]; simp] at this
                        exact this
                      have HO2 : Hid (SrcW (.slice pa P'.length pc) P' y2) := hoth.keptM wc_pos hout.u.map k2
                      clear hHeld KS KV hs2 hk2 k2 hout hoth htail hsrc r0 r2 c0 c1
                      have eA : Hid ((some (if qc - 1 = 0 then ⟨qb, qo, none⟩ else (⟨qb, qo, none⟩ : Addr).add (1 * 19))) = (if qc = 1 then some ⟨qb, qo, none⟩ else some ⟨qb, qo + 19, none⟩)) := by
                        show _ = _
                        by_cases h : qc = 1
                        · simp [h]
                        · rw [if_neg (by omega), if_neg h, Nat.one_mul, Addr.add_lit]
                      rw [eA.out] at HT2
                      have HO3 := HO2.out
                      have HT3 := HT2.out
                      rw [HPL.out] at HO3
                      rw [show ql - 1 = T'.length by omega] at HT3
                      clear HO2 HT2 eA
                      have HZ : Hid (OutIn w p3 B3 p4 B4 (putAll f (P ++ R)) (putAll f (d ++ [((kx, ky), v)])) y2 ∧ SrcW (.slice pa pl pc) P' y2 ∧ SrcW (.slice (if qc = 1 then some ⟨qb, qo, none⟩ else some ⟨qb, qo + 19, none⟩) T'.length (qc - 1)) T' y2 ∧ ((d ++ [((kx, ky), v)]) ++ P' ++ T').Perm (P ++ R)) := ⟨HN.out, HO3, HT3, hperm⟩
                      clear HN HO3 HT3 hperm
                      go_wp2_with fail
                      refine ⟨⟨j + 1, P', T', d ++ [((kx, ky), v)], by go_num, ?_, HZ.out⟩, ?_⟩
                      · have := HPL.out; omega
                      · simp only [lenV]; omega
                    ·
                      as_aux_lemma =>
                      clear HO
                      obtain rfl := hpa hp1
                      obtain ⟨⟨⟨⟨kx, ky⟩, v⟩, T'⟩, hT⟩ : ∃ c : (K2 × V) × Ws, P' = c.1 :: c.2 := by
                        cases h : P' with
                        | nil => have := HPL.out; rw [h] at this; simp at this; omega
                        | cons a r => exact ⟨(a, r), rfl⟩
                      simp only at hT
                      have r0 := HP.out 0 ((kx, ky), v) (by rw [hT]; rfl)
                      rw [Nat.zero_mul, Nat.add_zero] at r0
                      obtain ⟨c0, c1, r2⟩ := write_cells r0
                      simp only at c0 c1 r2
                      have hsrc := HH.out.2.1
                      rw [hT] at hsrc
                      obtain ⟨htail, -, hc1⟩ := SrcR.tail hsrc
                      have htl : (pl : Nat) = T'.length + 1 := by have := HPL.out; rw [hT] at this; simpa using this.symm
                      have hoth := HH.out.2.2.1
                      have hperm : ((d ++ [((kx, ky), v)]) ++ T' ++ R').Perm (P ++ R) := take_perm (by have := HH.out.2.2.2; rw [hT] at this; exact this)
                      have hout := HH.out.1
                      have hb : pb ≠ B4 := by
                        intro e
                        have hcell := c0
                        rw [e] at hcell
                        obtain ⟨es, clock, hb, _⟩ := hout.u.map
                        simp [World.cell?, hb] at hcell
                      have t0 : (0 : Int) < (pl : Int) := by omega
                      clear HH HP HQ hpa
                      go_wp2_with fail
                      have KS : ∀ w', Kept (fun n => n = B4) wc w' → (w'.cell? ⟨pb, po, none⟩ = some (.int .i64 kx) ∧ w'.cell? ⟨pb, po + 1, none⟩ = some (.int .i64 ky)) :=
                        fun w' hk' => ⟨hk'.cell c0 hb, hk'.cell c1 hb⟩
                      have KV : ∀ w', Kept (fun n => n = B4) wc w' → w'.rangeAt pb (po + 2) (vc v) := fun w' hk' => range_kept r2 hk' hb
                      refine wp_region_held_drew (S := fun w' => Kept (fun n => n = B4) wc w') (by kernel_rfl) ((Kept.refl _ _).drew) (fun hHeld => ?_)
                      refine h_take 0 (some 201) (Op.move (Operand.tmp 18)) 22 ?v45 rfl rfl (by kernel_rfl) (by kernel_rfl) (by kernel_rfl) (fun _ _ _ h => h) ?hy45 hHeld ?_
                      case hy45 => (intro _ _ _ w hSw; have hcs := KS _ hSw; go_simp; try with_reducible rfl)
                      simp only [Act.put, List.setIfInBounds_toArray, List.set_cons_zero, List.set_cons_succ]
                      refine h_take 1 (some 202) (Op.move (Operand.tmp 15)) 41 ?v46 rfl rfl (by kernel_rfl) (by kernel_rfl) (by kernel_rfl) (fun _ _ _ h => h) ?hy46 hHeld ?_
                      case hy46 => (intro _ _ _ w hSw; have hcs := KS _ hSw; go_simp; try with_reducible rfl)
                      simp only [Act.put, List.setIfInBounds_toArray, List.set_cons_zero, List.set_cons_succ]
                      refine h_take 2 (some 203) (Op.indexAddr 41 (Operand.tmp 202) (Operand.const (Value.int IntKind.i64 0))) 0 ?v47 rfl rfl (by kernel_rfl) (by kernel_rfl) (by kernel_rfl) (fun _ _ _ h => h) ?hy47 hHeld ?_
                      case hy47 => (intro _ _ _ w hSw; have hcs := KS _ hSw; go_simp; try with_reducible rfl)
                      simp only [Act.put, List.setIfInBounds_toArray, List.set_cons_zero, List.set_cons_succ]
                      refine h_take 3 (some 204) (Op.fieldAddr 40 (Operand.tmp 203) 0) 0 ?v48 rfl rfl (by kernel_rfl) (by kernel_rfl) (by kernel_rfl) (fun _ _ _ h => h) ?hy48 hHeld ?_
                      case hy48 => (intro _ _ _ w hSw; have hcs := KS _ hSw; go_simp; try with_reducible rfl)
                      simp only [Act.put, List.setIfInBounds_toArray, List.set_cons_zero, List.set_cons_succ]
                      refine h_take 4 (some 205) (Op.load 25 (Operand.tmp 204)) 25 ?v49 rfl rfl (by kernel_rfl) (by kernel_rfl) (by kernel_rfl) (fun _ _ _ h => h) ?hy49 hHeld ?_
                      case hy49 => (intro _ _ _ w hSw; have hcs := KS _ hSw; go_simp; try with_reducible rfl)
                      simp only [Act.put, List.setIfInBounds_toArray, List.set_cons_zero, List.set_cons_succ]
                      refine h_take 5 (some 206) (Op.move (Operand.tmp 15)) 41 ?v50 rfl rfl (by kernel_rfl) (by kernel_rfl) (by kernel_rfl) (fun _ _ _ h => h) ?hy50 hHeld ?_
                      case hy50 => (intro _ _ _ w hSw; have hcs := KS _ hSw; go_simp; try with_reducible rfl)
                      simp only [Act.put, List.setIfInBounds_toArray, List.set_cons_zero, List.set_cons_succ]
                      refine h_take 6 (some 207) (Op.indexAddr 41 (Operand.tmp 206) (Operand.const (Value.int IntKind.i64 0))) 0 ?v51 rfl rfl (by kernel_rfl) (by kernel_rfl) (by kernel_rfl) (fun _ _ _ h => h) ?hy51 hHeld ?_
                      case hy51 => (intro _ _ _ w hSw; have hcs := KS _ hSw; go_simp; try with_reducible rfl)
                      simp only [Act.put, List.setIfInBounds_toArray, List.set_cons_zero, List.set_cons_succ]
                      refine h_take 7 (some 208) (Op.fieldAddr 40 (Operand.tmp 207) 1) 0 ?v52 rfl rfl (by kernel_rfl) (by kernel_rfl) (by kernel_rfl) (fun _ _ _ h => h) ?hy52 hHeld ?_
                      case hy52 => (intro _ _ _ w hSw; have hcs := KS _ hSw; go_simp; try with_reducible rfl)
                      simp only [Act.put, List.setIfInBounds_toArray, List.set_cons_zero, List.set_cons_succ]
                      refine h_take 8 (some 209) (Op.load 29 (Operand.tmp 208)) 29 (vv v) rfl rfl (by kernel_rfl) (by kernel_rfl) (by kernel_rfl) (fun _ _ _ h => h) (fun _ _ _ w hSw => exec_load rfl (load_wide wide_V (KV w hSw) rfl)) hHeld ?_
                      simp only [Act.put, List.setIfInBounds_toArray, List.set_cons_zero, List.set_cons_succ]
                      refine h_step 9 (some 210) (Op.call { callee := Callee.value (Operand.func 8), args := #[Operand.tmp 201, Operand.tmp 205, Operand.tmp 209], argTypes := #[22, 25, 29] }) 4 rfl rfl (by kernel_rfl) (fun _ _ _ K hK => ?_)
                      go_simp
                      refine (put_w p4 B4 _ kx ky v wc.drew (hout.u.still (Kept.refl _ _).drew)).mono ?_
                      rintro e y2 ⟨rfl, hs2, hk2⟩
                      have k2 : Kept (fun n => n = B4) wc y2 := (Kept.refl _ wc).drew.trans hk2 (fun _ _ e => e)
                      go_wp2_with fail
                      refine hK.out _ _ (k2) (fun hHeld => ?_)
                      clear hK K
                      try simp only [Act.put, List.setIfInBounds_toArray, List.set_cons_zero, List.set_cons_succ]
                      refine wpAnyH_done (by kernel_rfl) ?_ _
                      have HN : Hid (OutIn w p3 B3 p4 B4 (putAll f (P ++ R)) (putAll f (d ++ [((kx, ky), v)])) y2) := by
                        show OutIn _ _ _ _ _ _ _ _
                        rw [show putAll f (d ++ [((kx, ky), v)]) = putF (putAll f d) (kx, ky) v by rw [putAll_app]; rfl]
                        exact hout.putU hs2 k2
                      have HT2 : Hid (SrcW (.slice (some (if pc - 1 = 0 then ⟨pb, po, none⟩ else (⟨pb, po, none⟩ : Addr).add (1 * 19))) (pl - 1) (pc - 1)) T' y2) := by
                        have := htail.keptM wc_pos hout.u.map k2
                        rw [show ((((kx, ky), v) :: T').length - 1) = pl - 1 by rw [htl]; simp] at this
                        exact this
                      have HO2 : Hid (SrcW (.slice qa R'.length qc) R' y2) := hoth.keptM wc_pos hout.u.map k2
                      clear hHeld KS KV hs2 hk2 k2 hout hoth htail hsrc r0 r2 c0 c1
                      have eA : Hid ((some (if pc - 1 = 0 then ⟨pb, po, none⟩ else (⟨pb, po, none⟩ : Addr).add (1 * 19))) = (if pc = 1 then some ⟨pb, po, none⟩ else some ⟨pb, po + 19, none⟩)) := by
                        show _ = _
                        by_cases h : pc = 1
                        · simp [h]
                        · rw [if_neg (by omega), if_neg h, Nat.one_mul, Addr.add_lit]
                      rw [eA.out] at HT2
                      have HO3 := HO2.out
                      have HT3 := HT2.out
                      rw [HQL.out] at HO3
                      rw [show pl - 1 = T'.length by omega] at HT3
                      clear HO2 HT2 eA
                      have HZ : Hid (OutIn w p3 B3 p4 B4 (putAll f (P ++ R)) (putAll f (d ++ [((kx, ky), v)])) y2 ∧ SrcW (.slice (if pc = 1 then some ⟨pb, po, none⟩ else some ⟨pb, po + 19, none⟩) T'.length (pc - 1)) T' y2 ∧ SrcW (.slice qa ql qc) R' y2 ∧ ((d ++ [((kx, ky), v)]) ++ T' ++ R').Perm (P ++ R)) := ⟨HN.out, HT3, HO3, hperm⟩
                      clear HN HO3 HT3 hperm
                      go_wp2_with fail
                      refine ⟨⟨j + 1, T', R', d ++ [((kx, ky), v)], by go_num, ?_, HZ.out⟩, ?_⟩
                      · have := HQL.out; omega
                      · simp only [lenV]; omega
          case rest =>
            as_aux_lemma =>
            have H8 : Hid (OutIn w p3 B3 p4 B4 (putAll f (P ++ R)) (putAll f (P ++ R)) wc) := hcut.out
            clear hcut H7 HA HO hoo
            generalize putAll f (P ++ R) = ft at *
            go_upto_block 10 with fail
            go_cut [23, 24, 25] from 213 to 229 (fun _ _ _ wx => Hid (OutIn w p3 B3 p4 B4 ft ft wx))
            case first =>
              as_aux_lemma =>
              go_wp2_with fail
              go_loopw [23] (fun i wr => ∃ j : Nat, i = .int .i64 j ∧ j ≤ 55 ∧ Hid (OutIn w p3 B3 p4 B4 ft ft wr)) (fun i _ => 55 - (intOf i).toNat)
              case atStart => exact ⟨0, rfl, Nat.zero_le _, H8.out⟩
              case round =>
                obtain ⟨j, rfl, hj, HH⟩ := hrel
                clear H8
                by_cases hlt : j < 55
                · have t1 : (j : Int) < 55 := by omega
                  go_wp2_with fail
                  refine (all_w _).mono ?_
                  rintro e y1 ⟨rfl, rfl⟩
                  go_wp2_with fail
                  refine (keyat2 j hlt _).mono ?_
                  rintro e y2 ⟨rfl, hk2⟩
                  obtain ⟨⟨kx, ky⟩, hkk⟩ : ∃ k, keyAt (j : Int) = k := ⟨_, rfl⟩
                  rw [hkk]
                  simp only
                  obtain ⟨D, hD⟩ : ∃ D : Nat, y2.heap.size = D := ⟨_, rfl⟩
                  obtain ⟨y3, h3⟩ : ∃ y3, y2.alloc (.cells #[.int .i64 kx, .int .i64 ky] 25) = y3 := ⟨_, rfl⟩
                  have k3 : Kept (fun _ => False) y1 y3 := by subst h3; exact hk2.alloc _
                  have hK : y3.heap[D]? = some (.cells #[.int .i64 kx, .int .i64 ky] 25 (0, 0)) := by subst h3; exact alloc_at' _ hD
                  go_wp2_with fail
                  clear h3 hk2
                  have hT := HH.out.still k3
                  have KS : ∀ w', Kept (fun _ => False) y3 w' → (w'.cell? ⟨D, 0, none⟩ = some (.int .i64 kx) ∧ w'.cell? ⟨D, 1, none⟩ = some (.int .i64 ky)) :=
                    fun w' hk' => ⟨hk'.cell (cell_at hK rfl) (fun x => x), hk'.cell (cell_at hK rfl) (fun x => x)⟩
                  refine wp_region_held_drew (S := fun w' => Kept (fun _ => False) y3 w') (by kernel_rfl) ((Kept.refl _ _).drew) (fun hHeld => ?_)
                  refine h_take 0 (some 223) (Op.move (Operand.tmp 17)) 22 ?v53 rfl rfl (by kernel_rfl) (by kernel_rfl) (by kernel_rfl) (fun _ _ _ h => h) ?hy53 hHeld ?_
                  case hy53 => (intro _ _ _ w hSw; have hcs := KS _ hSw; go_simp; try with_reducible rfl)
                  simp only [Act.put, List.setIfInBounds_toArray, List.set_cons_zero, List.set_cons_succ]
                  refine h_take 1 (some 224) (Op.load 25 (Operand.tmp 24)) 25 ?v54 rfl rfl (by kernel_rfl) (by kernel_rfl) (by kernel_rfl) (fun _ _ _ h => h) ?hy54 hHeld ?_
                  case hy54 => (intro _ _ _ w hSw; have hcs := KS _ hSw; go_simp; try with_reducible rfl)
                  simp only [Act.put, List.setIfInBounds_toArray, List.set_cons_zero, List.set_cons_succ]
                  refine h_take 3 (some 226) (Op.move (Operand.tmp 18)) 22 ?v55 rfl rfl (by kernel_rfl) (by kernel_rfl) (by kernel_rfl) (fun _ _ _ h => h) ?hy55 hHeld ?_
                  case hy55 => (intro _ _ _ w hSw; have hcs := KS _ hSw; go_simp; try with_reducible rfl)
                  simp only [Act.put, List.setIfInBounds_toArray, List.set_cons_zero, List.set_cons_succ]
                  refine h_take 4 (some 227) (Op.load 25 (Operand.tmp 24)) 25 ?v56 rfl rfl (by kernel_rfl) (by kernel_rfl) (by kernel_rfl) (fun _ _ _ h => h) ?hy56 hHeld ?_
                  case hy56 => (intro _ _ _ w hSw; have hcs := KS _ hSw; go_simp; try with_reducible rfl)
                  simp only [Act.put, List.setIfInBounds_toArray, List.set_cons_zero, List.set_cons_succ]
                  refine h_step 2 (some 225) (Op.call { callee := Callee.value (Operand.func 13), args := #[Operand.tmp 223, Operand.tmp 224], argTypes := #[22, 25] }) 29 rfl rfl (by kernel_rfl) (fun _ _ _ K hK => ?_)
                  go_simp
                  refine (get_w p3 B3 ft kx ky y3.drew (hT.t.still (Kept.refl _ _).drew)).mono ?_
                  rintro e y4 ⟨rfl, hk4⟩
                  have k4 : Kept (fun _ => False) y3 y4 := (Kept.refl _ y3).drew.thru hk4
                  go_wp2_with fail
                  refine hK.out _ _ (k4) (fun hHeld => ?_)
                  clear hK K
                  try simp only [Act.put, List.setIfInBounds_toArray, List.set_cons_zero, List.set_cons_succ]
                  refine h_step 5 (some 228) (Op.call { callee := Callee.value (Operand.func 13), args := #[Operand.tmp 226, Operand.tmp 227], argTypes := #[22, 25] }) 29 rfl rfl (by kernel_rfl) (fun _ _ _ K hK => ?_)
                  go_simp
                  refine (get_w p4 B4 ft kx ky y4 (hT.u.still k4)).mono ?_
                  rintro e y5 ⟨rfl, hk5⟩
                  have k5 : Kept (fun _ => False) y3 y5 := k4.thru hk5
                  go_wp2_with fail
                  refine hK.out _ _ (k5) (fun hHeld => ?_)
                  clear hK K
                  try simp only [Act.put, List.setIfInBounds_toArray, List.set_cons_zero, List.set_cons_succ]
                  refine h_take 6 (some 229) (Op.binOp BinOp.neq 29 (Operand.tmp 225) (Operand.tmp 228) 29) 4 (.bool false) rfl rfl (by kernel_rfl) (by kernel_rfl) (by kernel_rfl) (fun _ _ _ h => h) (fun _ _ _ w hSw => exec_neV (a := lookF ft (kx, ky)) rfl rfl) hHeld ?_
                  simp only [Act.put, List.setIfInBounds_toArray, List.set_cons_zero, List.set_cons_succ]
                  refine wpAnyH_done (by kernel_rfl) ?_ _
                  have HN : Hid (OutIn w p3 B3 p4 B4 ft ft y5) := hT.still k5
                  clear hHeld KS hk4 k4 hk5 k5 hT HH hK k3
                  go_wp2
                  go_roundw
                  case rel => exact ⟨j + 1, by go_num, by omega, HN.out⟩
                  case measure => simp [intOf]; omega
                · obtain rfl : j = 55 := by omega
                  have HR : Hid (OutIn w p3 B3 p4 B4 ft ft wr) := HH.out
                  clear HH
                  go_wp2_with fail
                  refine (all_w _).mono ?_
                  rintro e y1 ⟨rfl, rfl⟩
                  go_wp2
                  go_meet
                  case rel => exact HR.out
            case rest =>
              as_aux_lemma =>
              have hK := hcut.out.kept
              clear hcut H8
              have R9 := runs_w wc
              go_wp2_with fail
              refine R9.mono ?_
              rintro e y1 ⟨rfl, hk1⟩
              have HZ := hK.thru hk1
              clear R9 hK hk1
              go_wp2
              go_ret
              exact ⟨rfl, HZ⟩
end Go.Proofs.Ytehifngelkenaaa
