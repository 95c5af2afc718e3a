/- The statement on twins; no conditions. -/
import Derived.Test.YtehifngelkenaaaTwinF
import Derived.Deep.CutBlock
namespace Go.Proofs.Ytehifngelkenaaa
open Go.RowKit
set_option linter.unusedSimpArgs false

theorem ask_cells {w : World} {b o : Nat} {t : Q3} (h : w.rangeAt b o (ac t)) : w.cell? ⟨b, o, none⟩ = some (.int .i64 t.1) ∧ w.cell? ⟨b, o + 1, none⟩ = some (.int .i64 t.2.1.1) ∧ w.cell? ⟨b, o + 1 + 1, none⟩ = some (.int .i64 t.2.1.2) ∧ w.rangeAt b (o + 3) (vc t.2.2) := by
  refine ⟨h 0 _ rfl, h 1 _ rfl, h 2 _ rfl, fun j u hu => ?_⟩
  have : (ac t)[3 + j]? = some u := by rw [Nat.add_comm]; exact hu
  have := h _ _ this
  rw [show o + (3 + j) = o + 3 + j by omega] at this
  exact this

set_option maxRecDepth 100000 in
set_option maxHeartbeats 4000000 in
theorem twin_law (ao : Option Addr) (len cap lb off : Nat) (Q : Nat → Q3) (hao : 0 < len → ao = some ⟨lb, off, none⟩) (mo : Option Addr) (mlen mcap mb moff : Nat) (M : Nat → Q3) (hmo : 0 < mlen → mo = some ⟨mb, moff, none⟩) (w : World)
    (hc : ∀ i, i < len → w.rangeAt lb (off + i * 20) (ac (Q i))) (hM : ∀ i, i < mlen → w.rangeAt mb (moff + i * 20) (ac (M i))) :
    Calls Try.prog 6 #[.slice ao len cap, .slice mo mlen mcap] w fun e w' => e = .returned (.bool true) ∧ Kept (fun _ => False) w w' := by
  have HC : Hid _ := hc
  have HM : Hid _ := hM
  have hmm := @run_makeMap Try.prog
  clear hc hM
  go_enter Try.func6, Try.ntmps6
  go_wp2_with fail
  refine (new_w w).mono ?_
  rintro e w1 ⟨p, B, rfl, hS, hk1, hp, hB⟩
  have HS1 : Hid (StoreIn p B (fun _ => none) w1 ∧ Kept (fun _ => False) w w1) := ⟨hS, hk1⟩
  clear hS hk1
  go_upto_block 0 with fail
  go_cut [6] from 21 to 50 (fun _ wr => ∃ f : StF, Hid (StoreIn p B f wr ∧ Kept (fun _ => False) w wr))
  case first =>
    as_aux_lemma =>
    go_wp2_with fail
    go_loopw [6] (fun i wr => ∃ (j : Nat) (f : StF), i = .int .i64 j ∧ j ≤ len ∧ j ≤ 20 ∧ Hid (StoreIn p B f wr ∧ Kept (fun _ => False) w wr)) (fun i _ => 20 - (intOf i).toNat)
    case atStart => exact ⟨0, _, rfl, Nat.zero_le _, Nat.zero_le _, HS1.out⟩
    case round =>
      obtain ⟨j, f, rfl, hjl, hj20, HH⟩ := hrel
      clear HS1
      by_cases hlt : j < len ∧ j < 20
      · obtain ⟨hj1, hj2⟩ := hlt
        obtain ⟨-, c1, c2, r3⟩ := ask_cells (range_kept (HC.out j hj1) HH.out.2 (fun x => x))
        obtain ⟨⟨kd0, ⟨kx, ky⟩, v⟩, hQ⟩ : ∃ t, Q j = t := ⟨_, rfl⟩
        rw [hQ] at c1 c2 r3
        simp only at c1 c2 r3
        obtain rfl := hao (by omega)
        have t1 : (j : Int) < (len : Int) := by omega
        have t2 : (j : Int) < 20 := by omega
        have hlb : lb ≠ B := by have := World.block_lt_of_cell? _ _ (HC.out j hj1 0 _ rfl); simp at this; omega
        clear HC HM hQ
        go_wp2_with fail
        have KS : ∀ w', Kept (fun n => n = B) wr w' → (w'.cell? ⟨lb, off + j * 20 + 1, none⟩ = some (.int .i64 kx) ∧ w'.cell? ⟨lb, off + j * 20 + 1 + 1, none⟩ = some (.int .i64 ky)) :=
          fun w' hk' => ⟨hk'.cell c1 hlb, hk'.cell c2 hlb⟩
        have KV : ∀ w', Kept (fun n => n = B) wr w' → w'.rangeAt lb (off + j * 20 + 3) (vc v) := fun w' hk' => range_kept r3 hk' hlb
        refine wp_region_held_drew (S := fun w' => Kept (fun n => n = B) wr w') (by kernel_rfl) ((Kept.refl _ _).drew) (fun hHeld => ?_)
        refine h_take 0 (some 31) (Op.move (Operand.tmp 5)) 22 ?v1 rfl rfl (by kernel_rfl) (by kernel_rfl) (by kernel_rfl) (fun _ _ _ h => h) ?hy1 hHeld ?_
        case hy1 => (intro _ _ _ w hSw; have hcs := KS _ hSw; go_simp; try with_reducible rfl)
        simp only [Act.put, List.setIfInBounds_toArray, List.set_cons_zero, List.set_cons_succ]
        refine h_take 1 (some 32) (Op.move (Operand.tmp 0)) 44 ?v2 rfl rfl (by kernel_rfl) (by kernel_rfl) (by kernel_rfl) (fun _ _ _ h => h) ?hy2 hHeld ?_
        case hy2 => (intro _ _ _ w hSw; have hcs := KS _ hSw; go_simp; try with_reducible rfl)
        simp only [Act.put, List.setIfInBounds_toArray, List.set_cons_zero, List.set_cons_succ]
        refine h_take 2 (some 33) (Op.move (Operand.tmp 6)) 3 ?v3 rfl rfl (by kernel_rfl) (by kernel_rfl) (by kernel_rfl) (fun _ _ _ h => h) ?hy3 hHeld ?_
        case hy3 => (intro _ _ _ w hSw; have hcs := KS _ hSw; go_simp; try with_reducible rfl)
        simp only [Act.put, List.setIfInBounds_toArray, List.set_cons_zero, List.set_cons_succ]
        refine h_take 3 (some 34) (Op.indexAddr 44 (Operand.tmp 32) (Operand.tmp 33)) 0 ?v4 rfl rfl (by kernel_rfl) (by kernel_rfl) (by kernel_rfl) (fun _ _ _ h => h) ?hy4 hHeld ?_
        case hy4 => (intro _ _ _ w hSw; have hcs := KS _ hSw; go_simp; try with_reducible rfl)
        simp only [Act.put, List.setIfInBounds_toArray, List.set_cons_zero, List.set_cons_succ]
        refine h_take 4 (some 35) (Op.fieldAddr 50 (Operand.tmp 34) 1) 0 ?v5 rfl rfl (by kernel_rfl) (by kernel_rfl) (by kernel_rfl) (fun _ _ _ h => h) ?hy5 hHeld ?_
        case hy5 => (intro _ _ _ w hSw; have hcs := KS _ hSw; go_simp; try with_reducible rfl)
        simp only [Act.put, List.setIfInBounds_toArray, List.set_cons_zero, List.set_cons_succ]
        refine h_take 5 (some 36) (Op.load 25 (Operand.tmp 35)) 25 ?v6 rfl rfl (by kernel_rfl) (by kernel_rfl) (by kernel_rfl) (fun _ _ _ h => h) ?hy6 hHeld ?_
        case hy6 => (intro _ _ _ w hSw; have hcs := KS _ hSw; go_simp; try with_reducible rfl)
        simp only [Act.put, List.setIfInBounds_toArray, List.set_cons_zero, List.set_cons_succ]
        refine h_take 6 (some 37) (Op.move (Operand.tmp 0)) 44 ?v7 rfl rfl (by kernel_rfl) (by kernel_rfl) (by kernel_rfl) (fun _ _ _ h => h) ?hy7 hHeld ?_
        case hy7 => (intro _ _ _ w hSw; have hcs := KS _ hSw; go_simp; try with_reducible rfl)
        simp only [Act.put, List.setIfInBounds_toArray, List.set_cons_zero, List.set_cons_succ]
        refine h_take 7 (some 38) (Op.move (Operand.tmp 6)) 3 ?v8 rfl rfl (by kernel_rfl) (by kernel_rfl) (by kernel_rfl) (fun _ _ _ h => h) ?hy8 hHeld ?_
        case hy8 => (intro _ _ _ w hSw; have hcs := KS _ hSw; go_simp; try with_reducible rfl)
        simp only [Act.put, List.setIfInBounds_toArray, List.set_cons_zero, List.set_cons_succ]
        refine h_take 8 (some 39) (Op.indexAddr 44 (Operand.tmp 37) (Operand.tmp 38)) 0 ?v9 rfl rfl (by kernel_rfl) (by kernel_rfl) (by kernel_rfl) (fun _ _ _ h => h) ?hy9 hHeld ?_
        case hy9 => (intro _ _ _ w hSw; have hcs := KS _ hSw; go_simp; try with_reducible rfl)
        simp only [Act.put, List.setIfInBounds_toArray, List.set_cons_zero, List.set_cons_succ]
        refine h_take 9 (some 40) (Op.fieldAddr 50 (Operand.tmp 39) 2) 0 ?v10 rfl rfl (by kernel_rfl) (by kernel_rfl) (by kernel_rfl) (fun _ _ _ h => h) ?hy10 hHeld ?_
        case hy10 => (intro _ _ _ w hSw; have hcs := KS _ hSw; go_simp; try with_reducible rfl)
        simp only [Act.put, List.setIfInBounds_toArray, List.set_cons_zero, List.set_cons_succ]
        refine h_take 10 (some 41) (Op.load 29 (Operand.tmp 40)) 29 (vv v) rfl rfl (by kernel_rfl) (by kernel_rfl) (by kernel_rfl) (fun _ _ _ h => h) (fun _ _ _ w hSw => exec_load rfl (load_wide wide_V (KV w hSw) rfl)) hHeld ?_
        simp only [Act.put, List.setIfInBounds_toArray, List.set_cons_zero, List.set_cons_succ]
        refine h_take 12 (some 43) (Op.move (Operand.tmp 0)) 44 ?v11 rfl rfl (by kernel_rfl) (by kernel_rfl) (by kernel_rfl) (fun _ _ _ h => h) ?hy11 hHeld ?_
        case hy11 => (intro _ _ _ w hSw; have hcs := KS _ hSw; go_simp; try with_reducible rfl)
        simp only [Act.put, List.setIfInBounds_toArray, List.set_cons_zero, List.set_cons_succ]
        refine h_take 13 (some 44) (Op.move (Operand.tmp 6)) 3 ?v12 rfl rfl (by kernel_rfl) (by kernel_rfl) (by kernel_rfl) (fun _ _ _ h => h) ?hy12 hHeld ?_
        case hy12 => (intro _ _ _ w hSw; have hcs := KS _ hSw; go_simp; try with_reducible rfl)
        simp only [Act.put, List.setIfInBounds_toArray, List.set_cons_zero, List.set_cons_succ]
        refine h_take 14 (some 45) (Op.indexAddr 44 (Operand.tmp 43) (Operand.tmp 44)) 0 ?v13 rfl rfl (by kernel_rfl) (by kernel_rfl) (by kernel_rfl) (fun _ _ _ h => h) ?hy13 hHeld ?_
        case hy13 => (intro _ _ _ w hSw; have hcs := KS _ hSw; go_simp; try with_reducible rfl)
        simp only [Act.put, List.setIfInBounds_toArray, List.set_cons_zero, List.set_cons_succ]
        refine h_take 15 (some 46) (Op.fieldAddr 50 (Operand.tmp 45) 1) 0 ?v14 rfl rfl (by kernel_rfl) (by kernel_rfl) (by kernel_rfl) (fun _ _ _ h => h) ?hy14 hHeld ?_
        case hy14 => (intro _ _ _ w hSw; have hcs := KS _ hSw; go_simp; try with_reducible rfl)
        simp only [Act.put, List.setIfInBounds_toArray, List.set_cons_zero, List.set_cons_succ]
        refine h_take 16 (some 47) (Op.load 25 (Operand.tmp 46)) 25 ?v15 rfl rfl (by kernel_rfl) (by kernel_rfl) (by kernel_rfl) (fun _ _ _ h => h) ?hy15 hHeld ?_
        case hy15 => (intro _ _ _ w hSw; have hcs := KS _ hSw; go_simp; try with_reducible rfl)
        simp only [Act.put, List.setIfInBounds_toArray, List.set_cons_zero, List.set_cons_succ]
        refine h_step 11 (some 42) (Op.call { callee := Callee.value (Operand.func 8), args := #[Operand.tmp 31, Operand.tmp 36, Operand.tmp 41], argTypes := #[22, 25, 29] }) 4 rfl rfl (by kernel_rfl) (fun _ _ _ K hK => ?_)
        go_simp
        refine (put_w p B f kx ky v wr.drew (HH.out.1.still (Kept.refl _ _).drew)).mono ?_
        rintro e w2 ⟨rfl, hS2, hk2⟩
        have k2 : Kept (fun n => n = B) wr w2 := (Kept.refl _ wr).drew.trans hk2 (fun _ _ e => e)
        go_wp2_with fail
        refine hK.out _ _ (k2) (fun hHeld => ?_)
        clear hK K
        try simp only [Act.put, List.setIfInBounds_toArray, List.set_cons_zero, List.set_cons_succ]
        refine h_step 17 (some 48) (Op.call { callee := Callee.value (Operand.func 34), args := #[Operand.tmp 47], argTypes := #[25] }) 3 rfl rfl (by kernel_rfl) (fun _ _ _ K hK => ?_)
        go_simp
        refine (place2 kx ky w2).mono ?_
        rintro e w3 ⟨rfl, hk3⟩
        have k3 : Kept (fun n => n = B) wr w3 := k2.trans hk3 (fun _ _ e => e.elim)
        go_wp2_with fail
        refine hK.out _ _ (k3) (fun hHeld => ?_)
        clear hK K
        try simp only [Act.put, List.setIfInBounds_toArray, List.set_cons_zero, List.set_cons_succ]
        refine h_take 18 (some 49) (Op.binOp BinOp.geq 3 (Operand.tmp 48) (Operand.const (Value.int IntKind.i64 0)) 3) 4 (.bool (decide (0 ≤ plc (kx, ky)))) rfl rfl (by kernel_rfl) (by kernel_rfl) (by kernel_rfl) (fun _ _ _ h => h) ?_ hHeld ?_
        · intro _ _ _ w hSw; have hcs := KS _ hSw; go_simp
        simp only [Act.put, List.setIfInBounds_toArray, List.set_cons_zero, List.set_cons_succ]
        refine h_take 19 (some 50) (Op.binOp BinOp.neq 4 (Operand.tmp 42) (Operand.tmp 49) 4) 4 (.bool false) rfl rfl (by kernel_rfl) (by kernel_rfl) (by kernel_rfl) (fun _ _ _ h => h) ?_ hHeld ?_
        · intro _ _ _ w hSw; have hcs := KS _ hSw; go_simp
        simp only [Act.put, List.setIfInBounds_toArray, List.set_cons_zero, List.set_cons_succ]
        refine wpAnyH_done (by kernel_rfl) ?_ _
        have HN : Hid (StoreIn p B (putF f (kx, ky) v) w3 ∧ Kept (fun _ => False) w w3) := ⟨hS2.still hk3, HH.out.2.trans k3 (fun k h1 h2 => by omega)⟩
        clear hHeld KS KV hk3 k3 hS2 hk2 k2 HH r3 c1 c2
        go_wp2
        go_roundw
        case rel => exact ⟨j + 1, _, by go_num, by omega, by omega, HN.out⟩
        case measure => simp [intOf]; omega
      · have HR : Hid _ := HH.out
        clear HH HC HM
        by_cases hj1 : j < len
        · have t1 : (j : Int) < (len : Int) := by omega
          have t2 : ¬ (j : Int) < 20 := by omega
          clear hlt
          go_wp2
          go_meet
          case rel => exact ⟨f, HR.out⟩
        · have t1 : ¬ (j : Int) < (len : Int) := by omega
          clear hlt
          go_wp2
          go_meet
          case rel => exact ⟨f, HR.out⟩
  case rest =>
    as_aux_lemma =>
    obtain ⟨f0, HS⟩ := hcut
    clear HS1 HC hao
    go_wp2_with fail
    refine (twin_w p B f0 wc HS.out.1).mono ?_
    rintro e w2 ⟨p', B', rfl, hT2, hk2, hp', hB'⟩
    have hS2 := HS.out.1.still hk2
    have K2 := HS.out.2.thru hk2
    go_wp2_with fail
    refine (look_w p w2).mono ?_
    rintro e w3 ⟨q, N, rfl, hV3, hk3, hq, hN⟩
    have hS3 := hS2.still hk3
    have hT3 := hT2.still hk3
    have K3 := K2.thru hk3
    have lB : B < w2.heap.size := hS2.map.lt
    have lB' : B' < w2.heap.size := hT2.map.lt
    have lN : N < w3.heap.size := hV3.map.lt
    have lB1 : B < wc.heap.size := HS.out.1.map.lt
    have s1 := HS.out.2.size
    have s2 := hk2.size
    have s3 := hk3.size
    obtain ⟨Bw, hBw⟩ : ∃ Bw : Nat, w3.heap.size = Bw := ⟨_, rfl⟩
    have H0 : Hid (StoreIn p B f0 (w3.alloc (.map #[] 0)) ∧ StoreIn p' B' f0 (w3.alloc (.map #[] 0)) ∧ ViewIn q N p (fun _ => none) (w3.alloc (.map #[] 0)) ∧ MapIn kv vv Bw (wasF f0 0) (w3.alloc (.map #[] 0)) ∧ Kept (fun _ => False) w (w3.alloc (.map #[] 0))) :=
      ⟨hS3.still ((Kept.refl _ _).alloc _), hT3.still ((Kept.refl _ _).alloc _), hV3.still ((Kept.refl _ _).alloc _), by rw [was_zero]; exact MapIn.made hBw, K3.alloc _⟩
    have n1 : B ≠ B' := by omega
    have n2 : B ≠ N := by omega
    have n3 : B ≠ Bw := by omega
    have n5 : N ≠ B' := by omega
    have n6 : N ≠ Bw := by omega
    have m1 : w.heap.size ≤ N := by omega
    have m2 : B' ≠ Bw := by omega
    have m3 : w.heap.size ≤ Bw := by omega
    clear hS2 hS3 hT2 hT3 hV3 hk2 hk3 K2 K3 HS lB1 s1 s2 s3
    go_upto_block 2 with fail
    go_cut [10, 11, 12] from 62 to 76 (fun _ _ _ wx => Hid (StoreIn p B f0 wx ∧ StoreIn p' B' f0 wx ∧ ViewIn q N p (fun _ => none) wx ∧ MapIn kv vv Bw (wasF f0 55) wx ∧ Kept (fun _ => False) w wx))
    case first =>
      as_aux_lemma =>
      go_wp2_with fail
      go_loopw [10] (fun i wx => ∃ j : Nat, i = .int .i64 j ∧ j ≤ 55 ∧ Hid (StoreIn p B f0 wx ∧ StoreIn p' B' f0 wx ∧ ViewIn q N p (fun _ => none) wx ∧ MapIn kv vv Bw (wasF f0 j) wx ∧ Kept (fun _ => False) w wx)) (fun i _ => 55 - (intOf i).toNat)
      case atStart => exact ⟨0, rfl, Nat.zero_le _, H0.out⟩
      case round =>
        obtain ⟨j, rfl, hj, HH⟩ := hrel
        clear H0 HM hmo
        by_cases hlt : j < 55
        · have t1 : (j : Int) < 55 := by omega
          go_wp2_with fail
          refine (all_w _).mono ?_
          rintro e x1 ⟨rfl, rfl⟩
          go_wp2_with fail
          refine (keyat2 j hlt _).mono ?_
          rintro e x2 ⟨rfl, hk2⟩
          have HW : Hid _ := was_step f0 hlt
          obtain ⟨⟨kx, ky⟩, hkk⟩ : ∃ k, keyAt (j : Int) = k := ⟨_, rfl⟩
          rw [hkk] at HW ⊢
          simp only
          obtain ⟨D, hD⟩ : ∃ D : Nat, x2.heap.size = D := ⟨_, rfl⟩
          obtain ⟨x3, h3⟩ : ∃ x3, x2.alloc (.cells #[.int .i64 kx, .int .i64 ky] 25) = x3 := ⟨_, rfl⟩
          have k3 : Kept (fun _ => False) x1 x3 := by subst h3; exact hk2.alloc _
          have hK : x3.heap[D]? = some (.cells #[.int .i64 kx, .int .i64 ky] 25 (0, 0)) := by subst h3; exact alloc_at' _ hD
          go_wp2_with fail
          clear h3 hk2
          have hDw : D ≠ Bw := by have := (HH.out.2.2.2.1.still k3).off hK; exact this
          have KS : ∀ w', Kept (fun n => n = Bw) x3 w' → (w'.cell? ⟨D, 0, none⟩ = some (.int .i64 kx) ∧ w'.cell? ⟨D, 1, none⟩ = some (.int .i64 ky)) :=
            fun w' hk' => ⟨hk'.cell (cell_at hK rfl) hDw, hk'.cell (cell_at hK rfl) hDw⟩
          refine wp_region_held_drew (S := fun w' => Kept (fun n => n = Bw) x3 w') (by kernel_rfl) ((Kept.refl _ _).drew) (fun hHeld => ?_)
          refine h_take 0 (some 72) (Op.move (Operand.tmp 9)) 58 ?v16 rfl rfl (by kernel_rfl) (by kernel_rfl) (by kernel_rfl) (fun _ _ _ h => h) ?hy16 hHeld ?_
          case hy16 => (intro _ _ _ w hSw; have hcs := KS _ hSw; go_simp; try with_reducible rfl)
          simp only [Act.put, List.setIfInBounds_toArray, List.set_cons_zero, List.set_cons_succ]
          refine h_take 1 (some 73) (Op.load 25 (Operand.tmp 11)) 25 ?v17 rfl rfl (by kernel_rfl) (by kernel_rfl) (by kernel_rfl) (fun _ _ _ h => h) ?hy17 hHeld ?_
          case hy17 => (intro _ _ _ w hSw; have hcs := KS _ hSw; go_simp; try with_reducible rfl)
          simp only [Act.put, List.setIfInBounds_toArray, List.set_cons_zero, List.set_cons_succ]
          refine h_take 2 (some 74) (Op.move (Operand.tmp 5)) 22 ?v18 rfl rfl (by kernel_rfl) (by kernel_rfl) (by kernel_rfl) (fun _ _ _ h => h) ?hy18 hHeld ?_
          case hy18 => (intro _ _ _ w hSw; have hcs := KS _ hSw; go_simp; try with_reducible rfl)
          simp only [Act.put, List.setIfInBounds_toArray, List.set_cons_zero, List.set_cons_succ]
          refine h_take 3 (some 75) (Op.load 25 (Operand.tmp 11)) 25 ?v19 rfl rfl (by kernel_rfl) (by kernel_rfl) (by kernel_rfl) (fun _ _ _ h => h) ?hy19 hHeld ?_
          case hy19 => (intro _ _ _ w hSw; have hcs := KS _ hSw; go_simp; try with_reducible rfl)
          simp only [Act.put, List.setIfInBounds_toArray, List.set_cons_zero, List.set_cons_succ]
          refine h_step 4 (some 76) (Op.call { callee := Callee.value (Operand.func 13), args := #[Operand.tmp 74, Operand.tmp 75], argTypes := #[22, 25] }) 29 rfl rfl (by kernel_rfl) (fun _ _ _ K hK => ?_)
          go_simp
          refine (get_w p B f0 kx ky x3.drew (HH.out.1.still k3.drew)).mono ?_
          rintro e x4 ⟨rfl, hk4⟩
          have k4 : Kept (fun _ => False) x1 x4 := k3.drew.thru hk4
          have k34 : Kept (fun _ => False) x3 x4 := (Kept.refl _ x3).drew.thru hk4
          go_wp2_with fail
          refine hK.out _ _ (k34.mono (fun _ _ e => e.elim)) (fun hHeld => ?_)
          clear hK K
          try simp only [Act.put, List.setIfInBounds_toArray, List.set_cons_zero, List.set_cons_succ]
          obtain ⟨x5, hr, hm, hk5, hsz⟩ := MapIn.store (w := x4) (HH.out.2.2.2.1.still k4) keyok_kv mapV (kx, ky) (lookF f0 (kx, ky))
          refine h_step 5 (none) (Op.mapUpdate 58 (Operand.tmp 72) (Operand.tmp 73) (Operand.tmp 76)) 0 rfl rfl (by kernel_rfl) (fun _ _ _ K hK => ?_)
          refine wp_skip (exec_update rfl rfl rfl hr) ?_
          refine hK.out _ _ ((k34.mono (fun _ _ e => e.elim)).trans hk5 (fun _ _ e => e)) (fun hHeld => ?_)
          clear hK K
          try simp only [Act.put, List.setIfInBounds_toArray, List.set_cons_zero, List.set_cons_succ]
          refine wpAnyH_done (by kernel_rfl) ?_ _
          have k5 : Kept (fun n => n = Bw) x1 x5 := (k4.mono (fun _ _ e => e.elim)).trans hk5 (fun _ _ e => e)
          have HN : Hid (StoreIn p B f0 x5 ∧ StoreIn p' B' f0 x5 ∧ ViewIn q N p (fun _ => none) x5 ∧ MapIn kv vv Bw (wasF f0 (j + 1)) x5 ∧ Kept (fun _ => False) w x5) :=
            ⟨HH.out.1.kept k5 (fun e => HH.out.2.2.2.1.off HH.out.1.cell e) n3, HH.out.2.1.kept k5 (fun e => HH.out.2.2.2.1.off HH.out.2.1.cell e) m2, HH.out.2.2.1.kept k5 (fun e => HH.out.2.2.2.1.off HH.out.2.2.1.cell e) n6, by rw [HW.out]; exact hm, HH.out.2.2.2.2.trans k5 (fun k h1 h2 => by omega)⟩
          clear hHeld KS hr hm hk5 hsz k5 k4 k34 k3 hK hk4 HH HW
          go_wp2
          go_roundw
          case rel => exact ⟨j + 1, by go_num, by omega, HN.out⟩
          case measure => simp [intOf]; omega
        · obtain rfl : j = 55 := by omega
          have HR : Hid _ := HH.out
          clear HH
          go_wp2_with fail
          refine (all_w _).mono ?_
          rintro e x1 ⟨rfl, rfl⟩
          go_wp2
          go_meet
          case rel => exact HR.out
    case rest =>
      as_aux_lemma =>
      have HW : Hid _ := hcut.out
      clear H0
      obtain ⟨Bo, hBo⟩ : ∃ Bo : Nat, wc.heap.size = Bo := ⟨_, rfl⟩
      have H1 : Hid (TwinIn w p B p' B' q N Bw Bo f0 f0 (fun _ => none) (ownOf (fun _ => none)) (wc.alloc (.map #[] 0))) := by
        obtain ⟨h1, h2, h3, h4, h5⟩ := HW.out
        have lB := h1.map.lt
        have lB2 := h2.map.lt
        have lN2 := h3.map.lt
        have lw := h4.lt
        have hs := h5.size
        exact ⟨h1.still ((Kept.refl _ _).alloc _), h2.still ((Kept.refl _ _).alloc _), h3.still ((Kept.refl _ _).alloc _), h4.still ((Kept.refl _ _).alloc _), by rw [own_none]; exact MapIn.made hBo, h5.alloc _, hB, m1, by omega, n1, n2, n3, by omega, n5, n6, by omega, by omega, by omega⟩
      clear HW hcut
      go_upto_block 4 with fail
      go_cut [14, 15, 16, 17] from 78 to 150 (fun _ _ _ _ wx => ∃ (f : StF) (g : VwF), Hid (TwinIn w p B p' B' q N Bw Bo f f0 g (ownOf g) wx))
      case first =>
        as_aux_lemma =>
        go_wp2_with fail
        go_loopw [14] (fun i wx => ∃ (j : Nat) (f : StF) (g : VwF), i = .int .i64 j ∧ j ≤ mlen ∧ j ≤ 20 ∧ Hid (TwinIn w p B p' B' q N Bw Bo f f0 g (ownOf g) wx)) (fun i _ => 20 - (intOf i).toNat)
        case atStart => exact ⟨0, _, _, rfl, Nat.zero_le _, Nat.zero_le _, H1.out⟩
        case round =>
          obtain ⟨j, f, g, rfl, hjl, hj20, HH⟩ := hrel
          clear H1
          by_cases hlt : j < mlen ∧ j < 20
          · obtain ⟨hj1, hj2⟩ := hlt
            obtain ⟨c0, c1, c2, r3⟩ := ask_cells (range_kept (HM.out j hj1) HH.out.kept (fun x => x))
            obtain ⟨⟨kd0, ⟨kx, ky⟩, v⟩, hQ⟩ : ∃ t, M j = t := ⟨_, rfl⟩
            rw [hQ] at c0 c1 c2 r3
            simp only at c0 c1 c2 r3
            obtain rfl := hmo (by omega)
            have t1 : (j : Int) < (mlen : Int) := by omega
            have t2 : (j : Int) < 20 := by omega
            have hlb : mb < w.heap.size := by have := World.block_lt_of_cell? _ _ (HM.out j hj1 0 _ rfl); simpa using this
            obtain ⟨D, hD⟩ : ∃ D : Nat, wr.heap.size = D := ⟨_, rfl⟩
            have tb : mb < D := by have := HH.out.kept.size; omega
            obtain ⟨x3, h3⟩ : ∃ x3, wr.alloc (.cells #[.int .i64 kx, .int .i64 ky] 25) = x3 := ⟨_, rfl⟩
            have k3 : Kept (fun _ => False) wr x3 := by subst h3; exact (Kept.refl _ _).alloc _
            have hK : x3.heap[D]? = some (.cells #[.int .i64 kx, .int .i64 ky] 25 (0, 0)) := by subst h3; exact alloc_at' _ hD
            have d0 := cell_at hK (i := 0) rfl
            have d1 := cell_at hK (i := 1) rfl
            clear HM hQ
            go_wp2_with fail
            clear h3
            refine (place2 kx ky x3).mono ?_
            rintro e x4 ⟨rfl, hk4⟩
            have hpb := plc_bounds (kx, ky)
            have k4 := k3.thru hk4
            have H4 : Hid _ := HH.out.still k4
            replace c0 := k4.cell c0 (fun x => x)
            replace c1 := k4.cell c1 (fun x => x)
            replace c2 := k4.cell c2 (fun x => x)
            replace r3 := range_kept r3 k4 (fun x => x)
            replace hK := hk4.at hK (fun x => x)
            replace d0 := hk4.cell d0 (fun x => x)
            replace d1 := hk4.cell d1 (fun x => x)
            clear hk4 k4 k3 HH
            by_cases hpl : plc (kx, ky) < 0
            · clear c0 c1 c2 r3
              go_wp2
              go_roundw
              case rel => exact ⟨j + 1, f, g, by go_num, by omega, by omega, H4.out⟩
              case measure => simp [intOf]; omega
            ·
              as_aux_lemma =>
              go_upto_if 102 with fail
              go_cut [102] from 96 to 125 (fun _ wx => ∃ (f' : StF) (g' : VwF), Hid (TwinIn w p B p' B' q N Bw Bo f' f0 g' (ownOf g') wx ∧ wx.heap[D]? = some (.cells #[.int .i64 kx, .int .i64 ky] 25 (0, 0))))
              case first =>
                as_aux_lemma =>
                have hp0 : 0 ≤ plc (kx, ky) := by omega
                have hT := H4.out
                have lB := hT.nB
                have lN := hT.nN
                have lO := hT.nO
                have nB : mb ≠ B := by omega
                have nN : mb ≠ N := by omega
                have nO : mb ≠ Bo := by omega
                have dB : D ≠ B := hT.s.map.off hK
                have dN : D ≠ N := hT.v.map.off hK
                have dO : D ≠ Bo := hT.own.off hK
                by_cases hm : kd0.tmod 2 = 0
                · go_wp2_with fail
                  have KS : ∀ w', Kept (fun n => n = N) x4 w' → (w'.cell? ⟨D, 0, none⟩ = some (.int .i64 kx) ∧ w'.cell? ⟨D, 1, none⟩ = some (.int .i64 ky)) :=
                    fun w' hk' => ⟨hk'.cell (cell_at hK rfl) dN, hk'.cell (cell_at hK rfl) dN⟩
                  have KV : ∀ w', Kept (fun n => n = N) x4 w' → w'.rangeAt mb (moff + j * 20 + 3) (vc v) := fun w' hk' => range_kept r3 hk' nN
                  refine wp_region_held_drew (S := fun w' => Kept (fun n => n = N) x4 w') (by kernel_rfl) ((Kept.refl _ _).drew) (fun hHeld => ?_)
                  refine h_take 0 (some 103) (Op.move (Operand.tmp 8)) 31 ?v20 rfl rfl (by kernel_rfl) (by kernel_rfl) (by kernel_rfl) (fun _ _ _ h => h) ?hy20 hHeld ?_
                  case hy20 => (intro _ _ _ w hSw; have hcs := KS _ hSw; go_simp; try with_reducible rfl)
                  simp only [Act.put, List.setIfInBounds_toArray, List.set_cons_zero, List.set_cons_succ]
                  refine h_take 1 (some 104) (Op.load 25 (Operand.tmp 15)) 25 ?v21 rfl rfl (by kernel_rfl) (by kernel_rfl) (by kernel_rfl) (fun _ _ _ h => h) ?hy21 hHeld ?_
                  case hy21 => (intro _ _ _ w hSw; have hcs := KS _ hSw; go_simp; try with_reducible rfl)
                  simp only [Act.put, List.setIfInBounds_toArray, List.set_cons_zero, List.set_cons_succ]
                  refine h_take 2 (some 105) (Op.move (Operand.tmp 1)) 44 ?v22 rfl rfl (by kernel_rfl) (by kernel_rfl) (by kernel_rfl) (fun _ _ _ h => h) ?hy22 hHeld ?_
                  case hy22 => (intro _ _ _ w hSw; have hcs := KS _ hSw; go_simp; try with_reducible rfl)
                  simp only [Act.put, List.setIfInBounds_toArray, List.set_cons_zero, List.set_cons_succ]
                  refine h_take 3 (some 106) (Op.move (Operand.tmp 14)) 3 ?v23 rfl rfl (by kernel_rfl) (by kernel_rfl) (by kernel_rfl) (fun _ _ _ h => h) ?hy23 hHeld ?_
                  case hy23 => (intro _ _ _ w hSw; have hcs := KS _ hSw; go_simp; try with_reducible rfl)
                  simp only [Act.put, List.setIfInBounds_toArray, List.set_cons_zero, List.set_cons_succ]
                  refine h_take 4 (some 107) (Op.indexAddr 44 (Operand.tmp 105) (Operand.tmp 106)) 0 ?v24 rfl rfl (by kernel_rfl) (by kernel_rfl) (by kernel_rfl) (fun _ _ _ h => h) ?hy24 hHeld ?_
                  case hy24 => (intro _ _ _ w hSw; have hcs := KS _ hSw; go_simp; try with_reducible rfl)
                  simp only [Act.put, List.setIfInBounds_toArray, List.set_cons_zero, List.set_cons_succ]
                  refine h_take 5 (some 108) (Op.fieldAddr 50 (Operand.tmp 107) 2) 0 ?v25 rfl rfl (by kernel_rfl) (by kernel_rfl) (by kernel_rfl) (fun _ _ _ h => h) ?hy25 hHeld ?_
                  case hy25 => (intro _ _ _ w hSw; have hcs := KS _ hSw; go_simp; try with_reducible rfl)
                  simp only [Act.put, List.setIfInBounds_toArray, List.set_cons_zero, List.set_cons_succ]
                  refine h_take 6 (some 109) (Op.load 29 (Operand.tmp 108)) 29 (vv v) rfl rfl (by kernel_rfl) (by kernel_rfl) (by kernel_rfl) (fun _ _ _ h => h) (fun _ _ _ w hSw => exec_load rfl (load_wide wide_V (KV w hSw) rfl)) hHeld ?_
                  simp only [Act.put, List.setIfInBounds_toArray, List.set_cons_zero, List.set_cons_succ]
                  refine h_step 7 (some 110) (Op.call { callee := Callee.value (Operand.func 12), args := #[Operand.tmp 103, Operand.tmp 104, Operand.tmp 109], argTypes := #[31, 25, 29] }) 0 rfl rfl (by kernel_rfl) (fun _ _ _ K hK => ?_)
                  go_simp
                  refine (vput_w q N p g kx ky v x4.drew (hT.v.still (Kept.refl _ _).drew)).mono ?_
                  rintro e x5 ⟨rfl, hv5, hk5⟩
                  have k5 : Kept (fun n => n = N) x4 x5 := (Kept.refl _ x4).drew.trans hk5 (fun _ _ e => e)
                  go_wp2_with fail
                  refine hK.out _ _ (k5) (fun hHeld => ?_)
                  clear hK K
                  try simp only [Act.put, List.setIfInBounds_toArray, List.set_cons_zero, List.set_cons_succ]
                  refine wpAnyH_done (by kernel_rfl) ?_ _
                  have hT5 := hT.putV hv5 k5
                  have hK5 := k5.at hK dN
                  have r5 := range_kept r3 k5 nN
                  clear hHeld KS KV hk5 hv5 k5 r3 hK d0 d1 c0 c1 c2
                  go_wp2_with fail
                  have KS : ∀ w', Kept (fun n => n = Bo) x5 w' → (w'.cell? ⟨D, 0, none⟩ = some (.int .i64 kx) ∧ w'.cell? ⟨D, 1, none⟩ = some (.int .i64 ky)) :=
                    fun w' hk' => ⟨hk'.cell (cell_at hK5 rfl) dO, hk'.cell (cell_at hK5 rfl) dO⟩
                  have KV : ∀ w', Kept (fun n => n = Bo) x5 w' → w'.rangeAt mb (moff + j * 20 + 3) (vc v) := fun w' hk' => range_kept r5 hk' nO
                  refine wp_region_held_drew (S := fun w' => Kept (fun n => n = Bo) x5 w') (by kernel_rfl) ((Kept.refl _ _).drew) (fun hHeld => ?_)
                  refine h_take 0 (some 111) (Op.move (Operand.tmp 13)) 58 ?v26 rfl rfl (by kernel_rfl) (by kernel_rfl) (by kernel_rfl) (fun _ _ _ h => h) ?hy26 hHeld ?_
                  case hy26 => (intro _ _ _ w hSw; have hcs := KS _ hSw; go_simp; try with_reducible rfl)
                  simp only [Act.put, List.setIfInBounds_toArray, List.set_cons_zero, List.set_cons_succ]
                  refine h_take 1 (some 112) (Op.load 25 (Operand.tmp 15)) 25 ?v27 rfl rfl (by kernel_rfl) (by kernel_rfl) (by kernel_rfl) (fun _ _ _ h => h) ?hy27 hHeld ?_
                  case hy27 => (intro _ _ _ w hSw; have hcs := KS _ hSw; go_simp; try with_reducible rfl)
                  simp only [Act.put, List.setIfInBounds_toArray, List.set_cons_zero, List.set_cons_succ]
                  refine h_take 2 (some 113) (Op.move (Operand.tmp 1)) 44 ?v28 rfl rfl (by kernel_rfl) (by kernel_rfl) (by kernel_rfl) (fun _ _ _ h => h) ?hy28 hHeld ?_
                  case hy28 => (intro _ _ _ w hSw; have hcs := KS _ hSw; go_simp; try with_reducible rfl)
                  simp only [Act.put, List.setIfInBounds_toArray, List.set_cons_zero, List.set_cons_succ]
                  refine h_take 3 (some 114) (Op.move (Operand.tmp 14)) 3 ?v29 rfl rfl (by kernel_rfl) (by kernel_rfl) (by kernel_rfl) (fun _ _ _ h => h) ?hy29 hHeld ?_
                  case hy29 => (intro _ _ _ w hSw; have hcs := KS _ hSw; go_simp; try with_reducible rfl)
                  simp only [Act.put, List.setIfInBounds_toArray, List.set_cons_zero, List.set_cons_succ]
                  refine h_take 4 (some 115) (Op.indexAddr 44 (Operand.tmp 113) (Operand.tmp 114)) 0 ?v30 rfl rfl (by kernel_rfl) (by kernel_rfl) (by kernel_rfl) (fun _ _ _ h => h) ?hy30 hHeld ?_
                  case hy30 => (intro _ _ _ w hSw; have hcs := KS _ hSw; go_simp; try with_reducible rfl)
                  simp only [Act.put, List.setIfInBounds_toArray, List.set_cons_zero, List.set_cons_succ]
                  refine h_take 5 (some 116) (Op.fieldAddr 50 (Operand.tmp 115) 2) 0 ?v31 rfl rfl (by kernel_rfl) (by kernel_rfl) (by kernel_rfl) (fun _ _ _ h => h) ?hy31 hHeld ?_
                  case hy31 => (intro _ _ _ w hSw; have hcs := KS _ hSw; go_simp; try with_reducible rfl)
                  simp only [Act.put, List.setIfInBounds_toArray, List.set_cons_zero, List.set_cons_succ]
                  refine h_take 6 (some 117) (Op.load 29 (Operand.tmp 116)) 29 (vv v) rfl rfl (by kernel_rfl) (by kernel_rfl) (by kernel_rfl) (fun _ _ _ h => h) (fun _ _ _ w hSw => exec_load rfl (load_wide wide_V (KV w hSw) rfl)) hHeld ?_
                  simp only [Act.put, List.setIfInBounds_toArray, List.set_cons_zero, List.set_cons_succ]
                  obtain ⟨x6, hr, hm6, hk6, hsz⟩ := MapIn.store (w := x5.drew) (hT5.own.still (Kept.refl _ _).drew) keyok_kv mapV (kx, ky) v
                  refine h_step 7 (none) (Op.mapUpdate 58 (Operand.tmp 111) (Operand.tmp 112) (Operand.tmp 117)) 0 rfl rfl (by kernel_rfl) (fun _ _ _ K hK => ?_)
                  refine wp_skip (exec_update rfl rfl rfl hr) ?_
                  have k6 : Kept (fun n => n = Bo) x5 x6 := (Kept.refl _ x5).drew.trans hk6 (fun _ _ e => e)
                  refine hK.out _ _ (k6) (fun hHeld => ?_)
                  clear hK K
                  try simp only [Act.put, List.setIfInBounds_toArray, List.set_cons_zero, List.set_cons_succ]
                  refine wpAnyH_done (by kernel_rfl) ?_ _
                  have HN : Hid (TwinIn w p B p' B' q N Bw Bo f f0 (vputT g (kx, ky) v) (ownOf (vputT g (kx, ky) v)) x6 ∧ x6.heap[D]? = some (.cells #[.int .i64 kx, .int .i64 ky] 25 (0, 0))) := ⟨by rw [own_put hp0]; exact hT5.putO hm6 k6, k6.at hK5 dO⟩
                  clear hHeld KS KV hr hm6 hk6 hsz k6 hT5 hK5 r5 hT H4
                  go_wp2
                  go_meet
                  case rel => exact ⟨_, _, HN.out⟩
                · go_wp2_with fail
                  have KS : ∀ w', Kept (fun n => n = B) x4 w' → (w'.cell? ⟨D, 0, none⟩ = some (.int .i64 kx) ∧ w'.cell? ⟨D, 1, none⟩ = some (.int .i64 ky)) :=
                    fun w' hk' => ⟨hk'.cell (cell_at hK rfl) dB, hk'.cell (cell_at hK rfl) dB⟩
                  have KV : ∀ w', Kept (fun n => n = B) x4 w' → w'.rangeAt mb (moff + j * 20 + 3) (vc v) := fun w' hk' => range_kept r3 hk' nB
                  refine wp_region_held_drew (S := fun w' => Kept (fun n => n = B) x4 w') (by kernel_rfl) ((Kept.refl _ _).drew) (fun hHeld => ?_)
                  refine h_take 0 (some 118) (Op.move (Operand.tmp 5)) 22 ?v32 rfl rfl (by kernel_rfl) (by kernel_rfl) (by kernel_rfl) (fun _ _ _ h => h) ?hy32 hHeld ?_
                  case hy32 => (intro _ _ _ w hSw; have hcs := KS _ hSw; go_simp; try with_reducible rfl)
                  simp only [Act.put, List.setIfInBounds_toArray, List.set_cons_zero, List.set_cons_succ]
                  refine h_take 1 (some 119) (Op.load 25 (Operand.tmp 15)) 25 ?v33 rfl rfl (by kernel_rfl) (by kernel_rfl) (by kernel_rfl) (fun _ _ _ h => h) ?hy33 hHeld ?_
                  case hy33 => (intro _ _ _ w hSw; have hcs := KS _ hSw; go_simp; try with_reducible rfl)
                  simp only [Act.put, List.setIfInBounds_toArray, List.set_cons_zero, List.set_cons_succ]
                  refine h_take 2 (some 120) (Op.move (Operand.tmp 1)) 44 ?v34 rfl rfl (by kernel_rfl) (by kernel_rfl) (by kernel_rfl) (fun _ _ _ h => h) ?hy34 hHeld ?_
                  case hy34 => (intro _ _ _ w hSw; have hcs := KS _ hSw; go_simp; try with_reducible rfl)
                  simp only [Act.put, List.setIfInBounds_toArray, List.set_cons_zero, List.set_cons_succ]
                  refine h_take 3 (some 121) (Op.move (Operand.tmp 14)) 3 ?v35 rfl rfl (by kernel_rfl) (by kernel_rfl) (by kernel_rfl) (fun _ _ _ h => h) ?hy35 hHeld ?_
                  case hy35 => (intro _ _ _ w hSw; have hcs := KS _ hSw; go_simp; try with_reducible rfl)
                  simp only [Act.put, List.setIfInBounds_toArray, List.set_cons_zero, List.set_cons_succ]
                  refine h_take 4 (some 122) (Op.indexAddr 44 (Operand.tmp 120) (Operand.tmp 121)) 0 ?v36 rfl rfl (by kernel_rfl) (by kernel_rfl) (by kernel_rfl) (fun _ _ _ h => h) ?hy36 hHeld ?_
                  case hy36 => (intro _ _ _ w hSw; have hcs := KS _ hSw; go_simp; try with_reducible rfl)
                  simp only [Act.put, List.setIfInBounds_toArray, List.set_cons_zero, List.set_cons_succ]
                  refine h_take 5 (some 123) (Op.fieldAddr 50 (Operand.tmp 122) 2) 0 ?v37 rfl rfl (by kernel_rfl) (by kernel_rfl) (by kernel_rfl) (fun _ _ _ h => h) ?hy37 hHeld ?_
                  case hy37 => (intro _ _ _ w hSw; have hcs := KS _ hSw; go_simp; try with_reducible rfl)
                  simp only [Act.put, List.setIfInBounds_toArray, List.set_cons_zero, List.set_cons_succ]
                  refine h_take 6 (some 124) (Op.load 29 (Operand.tmp 123)) 29 (vv v) rfl rfl (by kernel_rfl) (by kernel_rfl) (by kernel_rfl) (fun _ _ _ h => h) (fun _ _ _ w hSw => exec_load rfl (load_wide wide_V (KV w hSw) rfl)) hHeld ?_
                  simp only [Act.put, List.setIfInBounds_toArray, List.set_cons_zero, List.set_cons_succ]
                  refine h_step 7 (some 125) (Op.call { callee := Callee.value (Operand.func 8), args := #[Operand.tmp 118, Operand.tmp 119, Operand.tmp 124], argTypes := #[22, 25, 29] }) 4 rfl rfl (by kernel_rfl) (fun _ _ _ K hK => ?_)
                  go_simp
                  refine (put_w p B f kx ky v x4.drew (hT.s.still (Kept.refl _ _).drew)).mono ?_
                  rintro e x5 ⟨rfl, hs5, hk5⟩
                  have k5 : Kept (fun n => n = B) x4 x5 := (Kept.refl _ x4).drew.trans hk5 (fun _ _ e => e)
                  go_wp2_with fail
                  refine hK.out _ _ (k5) (fun hHeld => ?_)
                  clear hK K
                  try simp only [Act.put, List.setIfInBounds_toArray, List.set_cons_zero, List.set_cons_succ]
                  refine wpAnyH_done (by kernel_rfl) ?_ _
                  have HN : Hid (TwinIn w p B p' B' q N Bw Bo (putF f (kx, ky) v) f0 g (ownOf g) x5 ∧ x5.heap[D]? = some (.cells #[.int .i64 kx, .int .i64 ky] 25 (0, 0))) := ⟨hT.putS hs5 k5, k5.at hK dB⟩
                  clear hHeld KS KV hk5 k5 hs5 hT H4 r3 hK d0 d1 c0 c1 c2
                  go_wp2
                  go_meet
                  case rel => exact ⟨_, _, HN.out⟩
              case rest =>
                as_aux_lemma =>
                obtain ⟨f1', g1, HN⟩ := hcut
                clear H4 hK d0 d1 c0 c1 c2 r3
                obtain ⟨x5, hx5⟩ : ∃ x5, wc = x5 := ⟨_, rfl⟩
                rw [hx5] at HN ⊢
                clear hx5
                have hp0 : 0 ≤ plc (kx, ky) := by omega
                have hT := HN.out.1
                have hK := HN.out.2
                have d0 := cell_at hK (i := 0) rfl
                have d1 := cell_at hK (i := 1) rfl
                obtain ⟨X, hX⟩ : ∃ X : Nat, x5.heap.size = X := ⟨_, rfl⟩
                have tX : D < X := by have := lt_at hK; omega
                have hl : (Instr.lookup 58 (.map (some Bo)) (.agg #[.int .i64 kx, .int .i64 ky]) true).run Try.prog x5 = .ok (.tuple #[vv (lookF (ownOf g1) (kx, ky)), .bool (ownOf g1 (kx, ky)).isSome]) x5 := look_vok hT.own (kx, ky)
                obtain ⟨so, hso⟩ : ∃ so, (ownOf g1 (kx, ky)).isSome = so := ⟨_, rfl⟩
                rw [hso] at hl
                have HSO : Hid _ := hso
                clear hso
                go_upto_if 133 with (first | (refine list_wnew rfl wide_V _ _ rfl X rfl (vc (lookF (ownOf g1) (kx, ky))) rfl _ rfl hX rfl (vc_one _) ?_))
                obtain ⟨x6, h6⟩ : ∃ x6, x5.alloc (.cells (vc (lookF (ownOf g1) (kx, ky))).toArray 29) = x6 := ⟨_, rfl⟩
                have k6 : Kept (fun _ => False) x5 x6 := by subst h6; exact (Kept.refl _ _).alloc _
                have hX6 : x6.heap[X]? = some (.cells (vc (lookF (ownOf g1) (kx, ky))).toArray 29 (0, 0)) := by subst h6; exact alloc_at' _ hX
                try rw [h6]
                clear h6 hl
                have hT0 := hT
                replace hT := hT.still k6
                replace hK := k6.at hK (fun x => x)
                clear k6 HN d0 d1
                go_cut [133] from 126 to 136 (fun _ wx => Hid (TwinIn w p B p' B' q N Bw Bo f1' f0 g1 (ownOf g1) wx ∧ wx.heap[D]? = some (.cells #[.int .i64 kx, .int .i64 ky] 25 (0, 0)) ∧ wx.heap[X]? = some (.cells (vc (seenF f1' (ownOf g1) (kx, ky))).toArray 29 (0, 0))))
                case first =>
                  as_aux_lemma =>
                  have hso := HSO.out
                  clear HSO
                  have d0 := cell_at hK (i := 0) rfl
                  have d1 := cell_at hK (i := 1) rfl
                  cases so with
                  | true =>
                    have e1 : lookF (ownOf g1) (kx, ky) = seenF f1' (ownOf g1) (kx, ky) := by
                      unfold lookF seenF
                      cases hg : ownOf g1 (kx, ky) with
                      | none => rw [hg] at hso; cases hso
                      | some y => rfl
                    have HR : Hid (TwinIn w p B p' B' q N Bw Bo f1' f0 g1 (ownOf g1) x6 ∧ x6.heap[D]? = some (.cells #[.int .i64 kx, .int .i64 ky] 25 (0, 0)) ∧ x6.heap[X]? = some (.cells (vc (seenF f1' (ownOf g1) (kx, ky))).toArray 29 (0, 0))) := ⟨hT, hK, by rw [← e1]; exact hX6⟩
                    clear e1 hso hT hK hX6 d0 d1
                    go_wp2
                    go_meet
                    case rel => exact HR.out
                  | false =>
                    have e1 : Hid (lookF f1' (kx, ky) = seenF f1' (ownOf g1) (kx, ky)) := by
                      show lookF f1' (kx, ky) = seenF f1' (ownOf g1) (kx, ky)
                      unfold seenF
                      cases hg : ownOf g1 (kx, ky) with
                      | none => rfl
                      | some y => rw [hg] at hso; cases hso
                    clear hso
                    go_wp2_with fail
                    refine (get_w p B f1' kx ky x6 hT.s).mono ?_
                    rintro e x7 ⟨rfl, k7⟩
                    have hX7 := k7.at hX6 (fun x => x)
                    go_wp2_with (first | (refine list_wstore rfl wide_V _ _ rfl X rfl (vc (lookF f1' (kx, ky))) rfl hX7 rfl rfl (vc_one _) ?_))
                    have hX8 := setRow_at hX7 (vc (lookF f1' (kx, ky))).toArray
                    have k8 := kept_setRow x7 X (vc (lookF f1' (kx, ky))).toArray
                    have hKx := k8.at (k7.at hK (fun x => x)) (show ¬ D = X by omega)
                    have HR : Hid (TwinIn w p B p' B' q N Bw Bo f1' f0 g1 (ownOf g1) (x7.setRow X (vc (lookF f1' (kx, ky))).toArray) ∧ (x7.setRow X (vc (lookF f1' (kx, ky))).toArray).heap[D]? = some (.cells #[.int .i64 kx, .int .i64 ky] 25 (0, 0)) ∧ (x7.setRow X (vc (lookF f1' (kx, ky))).toArray).heap[X]? = some (.cells (vc (seenF f1' (ownOf g1) (kx, ky))).toArray 29 (0, 0))) :=
                      ⟨(hT.still k7).put1 k8 hX7 (by have := hT0.kept.size; omega) (by have := lt_at hT0.s.cell; omega) (by have := lt_at hT0.t.cell; omega) (by have := lt_at hT0.v.cell; omega), hKx, by rw [← e1.out]; exact hX8⟩
                    clear hX8 k8 hKx hX7 hT hK hX6 d0 d1 k7
                    generalize x7.setRow X (vc (lookF f1' (kx, ky))).toArray = x9 at *
                    go_meet
                    case rel => exact HR.out
                case rest =>
                  as_aux_lemma =>
                  obtain ⟨x7, hx7⟩ : ∃ x7, wc = x7 := ⟨_, rfl⟩
                  rw [hx7] at hcut ⊢
                  clear hx7 hX6 hK hT
                  have hT := hcut.out.1
                  have hK := hcut.out.2.1
                  have hX7 := hcut.out.2.2
                  clear hcut
                  have dN : D ≠ N := hT.v.map.off hK
                  have xN : X ≠ N := hT.v.map.off hX7
                  have KS : ∀ w', Kept (fun n => n = N) x7 w' → (w'.cell? ⟨D, 0, none⟩ = some (.int .i64 kx) ∧ w'.cell? ⟨D, 1, none⟩ = some (.int .i64 ky)) :=
                    fun w' hk' => ⟨hk'.cell (cell_at hK rfl) dN, hk'.cell (cell_at hK rfl) dN⟩
                  have KV : ∀ w', Kept (fun n => n = N) x7 w' → w'.rangeAt X 0 (vc (seenF f1' (ownOf g1) (kx, ky))) := fun w' hk' => range_kept (whole_range hX7) hk' xN
                  have KM : ∀ w', Kept (fun n => n = N) x7 w' → (Instr.lookup 58 (.map (some Bw)) (.agg #[.int .i64 kx, .int .i64 ky]) false).run Try.prog w' = .ok (vv (lookF f0 (kx, ky))) w' := by
                    intro w' hk'
                    have := look_v (hT.was.kept hk' (fun e => hT.a6 e.symm)) (kx, ky)
                    rw [was_look hp0] at this
                    exact this
                  go_wp2_with fail
                  refine wp_region_held_drew (S := fun w' => Kept (fun n => n = N) x7 w') (by kernel_rfl) ((Kept.refl _ _).drew) (fun hHeld => ?_)
                  refine h_take 0 (some 137) (Op.move (Operand.tmp 8)) 31 ?v38 rfl rfl (by kernel_rfl) (by kernel_rfl) (by kernel_rfl) (fun _ _ _ h => h) ?hy38 hHeld ?_
                  case hy38 => (intro _ _ _ w hSw; have hcs := KS _ hSw; go_simp; try with_reducible rfl)
                  simp only [Act.put, List.setIfInBounds_toArray, List.set_cons_zero, List.set_cons_succ]
                  refine h_take 1 (some 138) (Op.load 25 (Operand.tmp 15)) 25 ?v39 rfl rfl (by kernel_rfl) (by kernel_rfl) (by kernel_rfl) (fun _ _ _ h => h) ?hy39 hHeld ?_
                  case hy39 => (intro _ _ _ w hSw; have hcs := KS _ hSw; go_simp; try with_reducible rfl)
                  simp only [Act.put, List.setIfInBounds_toArray, List.set_cons_zero, List.set_cons_succ]
                  refine h_take 3 (some 140) (Op.load 29 (Operand.tmp 16)) 29 (vv (seenF f1' (ownOf g1) (kx, ky))) rfl rfl (by kernel_rfl) (by kernel_rfl) (by kernel_rfl) (fun _ _ _ h => h) (fun _ _ _ w hSw => exec_load rfl (load_wide wide_V (KV w hSw) rfl)) hHeld ?_
                  simp only [Act.put, List.setIfInBounds_toArray, List.set_cons_zero, List.set_cons_succ]
                  refine h_step 2 (some 139) (Op.call { callee := Callee.value (Operand.func 11), args := #[Operand.tmp 137, Operand.tmp 138], argTypes := #[31, 25] }) 29 rfl rfl (by kernel_rfl) (fun _ _ _ K hK => ?_)
                  go_simp
                  refine (vget_w q N p B f1' g1 kx ky x7.drew (hT.v.still (Kept.refl _ _).drew) (hT.s.still (Kept.refl _ _).drew) (fun e => hT.a2 e.symm)).mono ?_
                  rintro e x8 ⟨rfl, hv8, hk8⟩
                  rw [seen_get hp0]
                  have k8 : Kept (fun n => n = N) x7 x8 := (Kept.refl _ x7).drew.trans hk8 (fun _ _ e => e)
                  have hT8 := hT.putV hv8 k8
                  go_wp2_with fail
                  refine hK.out _ _ (k8) (fun hHeld => ?_)
                  clear hK K
                  try simp only [Act.put, List.setIfInBounds_toArray, List.set_cons_zero, List.set_cons_succ]
                  refine h_take 4 (some 141) (Op.binOp BinOp.neq 29 (Operand.tmp 139) (Operand.tmp 140) 29) 4 (.bool false) rfl rfl (by kernel_rfl) (by kernel_rfl) (by kernel_rfl) (fun _ _ _ h => h) (fun _ _ _ w hSw => exec_neV (a := seenF f1' (ownOf g1) (kx, ky)) rfl rfl) hHeld ?_
                  simp only [Act.put, List.setIfInBounds_toArray, List.set_cons_zero, List.set_cons_succ]
                  refine h_take 5 (some 142) (Op.move (Operand.tmp 141)) 4 ?v40 rfl rfl (by kernel_rfl) (by kernel_rfl) (by kernel_rfl) (fun _ _ _ h => h) ?hy40 hHeld ?_
                  case hy40 => (intro _ _ _ w hSw; have hcs := KS _ hSw; go_simp; try with_reducible rfl)
                  simp only [Act.put, List.setIfInBounds_toArray, List.set_cons_zero, List.set_cons_succ]
                  refine h_take 6 (some 143) (Op.move (Operand.tmp 7)) 22 ?v41 rfl rfl (by kernel_rfl) (by kernel_rfl) (by kernel_rfl) (fun _ _ _ h => h) ?hy41 hHeld ?_
                  case hy41 => (intro _ _ _ w hSw; have hcs := KS _ hSw; go_simp; try with_reducible rfl)
                  simp only [Act.put, List.setIfInBounds_toArray, List.set_cons_zero, List.set_cons_succ]
                  refine h_take 7 (some 144) (Op.load 25 (Operand.tmp 15)) 25 ?v42 rfl rfl (by kernel_rfl) (by kernel_rfl) (by kernel_rfl) (fun _ _ _ h => h) ?hy42 hHeld ?_
                  case hy42 => (intro _ _ _ w hSw; have hcs := KS _ hSw; go_simp; try with_reducible rfl)
                  simp only [Act.put, List.setIfInBounds_toArray, List.set_cons_zero, List.set_cons_succ]
                  refine h_take 9 (some 146) (Op.move (Operand.tmp 9)) 58 ?v43 rfl rfl (by kernel_rfl) (by kernel_rfl) (by kernel_rfl) (fun _ _ _ h => h) ?hy43 hHeld ?_
                  case hy43 => (intro _ _ _ w hSw; have hcs := KS _ hSw; go_simp; try with_reducible rfl)
                  simp only [Act.put, List.setIfInBounds_toArray, List.set_cons_zero, List.set_cons_succ]
                  refine h_take 10 (some 147) (Op.load 25 (Operand.tmp 15)) 25 ?v44 rfl rfl (by kernel_rfl) (by kernel_rfl) (by kernel_rfl) (fun _ _ _ h => h) ?hy44 hHeld ?_
                  case hy44 => (intro _ _ _ w hSw; have hcs := KS _ hSw; go_simp; try with_reducible rfl)
                  simp only [Act.put, List.setIfInBounds_toArray, List.set_cons_zero, List.set_cons_succ]
                  refine h_take 11 (some 148) (Op.lookup 58 (Operand.tmp 146) (Operand.tmp 147) false) 29 (vv (lookF f0 (kx, ky))) rfl rfl (by kernel_rfl) (by kernel_rfl) (by kernel_rfl) (fun _ _ _ h => h) (fun _ _ _ w hSw => exec_look rfl rfl (KM w hSw)) hHeld ?_
                  simp only [Act.put, List.setIfInBounds_toArray, List.set_cons_zero, List.set_cons_succ]
                  refine h_step 8 (some 145) (Op.call { callee := Callee.value (Operand.func 13), args := #[Operand.tmp 143, Operand.tmp 144], argTypes := #[22, 25] }) 29 rfl rfl (by kernel_rfl) (fun _ _ _ K hK => ?_)
                  go_simp
                  refine (get_w p' B' f0 kx ky x8 hT8.t).mono ?_
                  rintro e x9 ⟨rfl, hk9⟩
                  have k9 : Kept (fun n => n = N) x7 x9 := k8.trans hk9 (fun _ _ e => e.elim)
                  go_wp2_with fail
                  refine hK.out _ _ (k9) (fun hHeld => ?_)
                  clear hK K
                  try simp only [Act.put, List.setIfInBounds_toArray, List.set_cons_zero, List.set_cons_succ]
                  refine h_take 12 (some 149) (Op.binOp BinOp.neq 29 (Operand.tmp 145) (Operand.tmp 148) 29) 4 (.bool false) rfl rfl (by kernel_rfl) (by kernel_rfl) (by kernel_rfl) (fun _ _ _ h => h) (fun _ _ _ w hSw => exec_neV (a := lookF f0 (kx, ky)) rfl rfl) hHeld ?_
                  simp only [Act.put, List.setIfInBounds_toArray, List.set_cons_zero, List.set_cons_succ]
                  refine h_take 13 (some 150) (Op.pick (Operand.tmp 142) (Operand.const (Value.bool true)) (Operand.tmp 149)) 4 ?v45 rfl rfl (by kernel_rfl) (by kernel_rfl) (by kernel_rfl) (fun _ _ _ h => h) ?hy45 hHeld ?_
                  case hy45 => (intro _ _ _ w hSw; have hcs := KS _ hSw; go_simp; try with_reducible rfl)
                  simp only [Act.put, List.setIfInBounds_toArray, List.set_cons_zero, List.set_cons_succ]
                  refine wpAnyH_done (by kernel_rfl) ?_ _
                  have HR : Hid (TwinIn w p B p' B' q N Bw Bo f1' f0 (vgetT g1 (kx, ky)) (ownOf (vgetT g1 (kx, ky))) x9) := by
                    show TwinIn _ _ _ _ _ _ _ _ _ _ _ _ _ _
                    rw [own_get hp0]
                    exact hT8.still hk9
                  clear hHeld KS KV KM hk8 k8 hv8 hT8 hk9 k9 hT hK hX7
                  go_wp2
                  go_roundw
                  case rel => exact ⟨j + 1, _, _, by go_num, by omega, by omega, HR.out⟩
                  case measure => simp [intOf]; omega
          · have HR : Hid _ := HH.out
            clear HH HM
            by_cases hj1 : j < mlen
            · have t1 : (j : Int) < (mlen : Int) := by omega
              have t2 : ¬ (j : Int) < 20 := by omega
              clear hlt
              go_wp2
              go_meet
              case rel => exact ⟨f, g, HR.out⟩
            · have t1 : ¬ (j : Int) < (mlen : Int) := by omega
              clear hlt
              go_wp2
              go_meet
              case rel => exact ⟨f, g, HR.out⟩
      case rest =>
        as_aux_lemma =>
        obtain ⟨f, g, HH⟩ := hcut
        clear H1 HM hmo
        have hT := HH.out
        obtain ⟨x1, hx1⟩ : ∃ x1, wc = x1 := ⟨_, rfl⟩
        rw [hx1] at hT HH ⊢
        clear hx1
        go_wp2_with fail
        refine (redo_w q N p g x1 hT.v).mono ?_
        rintro e x2 ⟨rv, rfl, ho⟩
        have hT2 := hT.still ho.kept
        have hcn : (Builtin.len_ #[58] 3 #[.map (some Bo)]).run Try.prog x2 = .ok (.int .i64 (wroteF g).length) x2 := hT2.own.count keyok_kv (upto_nodup _ 55 (Nat.le_refl _)) (wrote_mem hT.v.good) mapV
        have hl := redo_len g
        have hlen : (wroteF g).length ≤ 55 := upto_len _ _
        have HK2 : Hid (Kept (fun _ => False) w x2) := hT2.kept
        have R := runs_w x2
        obtain ⟨ao2, c2, rfl⟩ := ho.shape
        rw [hl]
        generalize hn : (wroteF g).length = n at *
        clear hl hn ho hT hT2 HH
        go_wp2_with (first | (refine list_lenmap rfl _ _ rfl Bo n rfl hcn ?_))
        refine R.mono ?_
        rintro e x3 ⟨rfl, hk3⟩
        have HZ := HK2.out.thru hk3
        clear R hcn HK2 hk3
        go_wp2
        go_ret
        exact ⟨rfl, HZ⟩
end Go.Proofs.Ytehifngelkenaaa
