
/- Descriptors say the file that they were set to, one's own; the least free one is told; what is none is refused; no conditions. -/
import Derived.Test.YtiklclmpealllaaPrO
import Derived.Test.YtiklclmpealllaaOpenArgs
import Derived.Deep.CutBlock
namespace Go.Proofs.Ytiklclmpealllaa
open Go.RowKit
set_option maxRecDepth 100000
set_option linter.unusedSimpArgs false

theorem ics_none12 : (ics 12 (fun _ => 0)).toArray = #[.int .i64 0, .int .i64 0, .int .i64 0, .int .i64 0, .int .i64 0, .int .i64 0, .int .i64 0, .int .i64 0, .int .i64 0, .int .i64 0, .int .i64 0, .int .i64 0] := rfl

set_option maxHeartbeats 4000000 in
theorem fds_law (ao : Option Addr) (len cap lb off : Nat) (Q : Nat → QA) (hao : 0 < len → ao = some ⟨lb, off, none⟩) (w : World) (hc : ∀ i, i < len → QAt w lb (off + i * 4) (Q i)) :
    Calls Try.prog 5 #[.slice ao len cap] w fun e w' => e = .returned (.bool true) ∧ Kept (fun _ => False) w w' := by
  have HC : Hid (∀ i, i < len → QAt w lb (off + i * 4) (Q i)) := hc
  clear hc
  go_enter Try.func5, Try.ntmps5
  go_wp2_with fail
  refine (side_new w).mono ?_
  rintro e w1 ⟨T, p, B, q, N, rfl, h1, hT⟩
  clear hT
  have c1 := h1.t
  go_wp2_with fail
  refine (side_nw h1 (-1)).mono ?_
  rintro e w2 ⟨rfl, h2, -⟩
  rw [ra1, show nwR 0 = .tuple #[.int .i64 0, .bool true] from rfl]
  clear h1 c1
  go_wp2_with fail
  refine (side_nw (show SideIn _ _ _ _ _ _ r1 _ from h2) 0).mono ?_
  rintro e w3 ⟨rfl, h3, -⟩
  rw [ra2, show nwR 1 = .tuple #[.int .i64 1, .bool true] from rfl]
  clear h2
  obtain ⟨F, hF⟩ : ∃ F : Nat, w3.heap.size = F := ⟨_, rfl⟩
  have H0 : Hid (FTab w T p B q N F r2 (fun _ => 0) (w3.alloc (.cells (ics 12 (fun _ => 0)).toArray 47)) ∧ FdsF (fun _ => 0) r2) := by
    have hl := h3.lows
    rw [hF] at hl
    exact ⟨⟨(show SideIn _ _ _ _ _ _ r2 _ from h3).still ((Kept.refl _ _).alloc _), alloc_at' _ hF, hl⟩, fds0⟩
  rw [ics_none12] at H0
  obtain ⟨w4, h4⟩ : ∃ w4, w3.alloc (.cells #[.int .i64 0, .int .i64 0, .int .i64 0, .int .i64 0, .int .i64 0, .int .i64 0, .int .i64 0, .int .i64 0, .int .i64 0, .int .i64 0, .int .i64 0, .int .i64 0] 47) = w4 := ⟨_, rfl⟩
  rw [h4] at H0
  clear h3
  go_wp2_with fail
  try rw [h4]
  clear h4 hF
  go_loopw [8] (fun v wr => ∃ r : Nat, v = .int .i64 r ∧ r ≤ len ∧ r ≤ 40 ∧ Hid (∃ g o, FTab w T p B q N F g o wr ∧ FdsF o g)) (fun v _ => 40 - (intOf v).toNat)
  case atStart => exact ⟨0, rfl, by omega, by omega, _, _, H0.out⟩
  case round =>
    clear H0
    obtain ⟨r, rfl, hr1, hr2, HH⟩ := hrel
    obtain ⟨z, hz⟩ : ∃ z : Bool, decide ((r : Int) < (len : Int) ∧ (r : Int) < 40) = z := ⟨_, rfl⟩
    go_upto_region 11 with fail
    go_cut [42] from 35 to 42 (fun v wx => v = .bool z ∧ wx = wr)
    case first =>
      as_aux_lemma =>
      by_cases p1 : (r : Int) < (len : Int)
      · by_cases p2 : (r : Int) < 40
        · have hz' : z = true := by rw [← hz]; simp [p1, p2]
          subst hz'
          clear hz
          go_wp2
          go_meet
          case rel => exact ⟨rfl, rfl⟩
        · have hz' : z = false := by rw [← hz]; simp [p1, p2]
          subst hz'
          clear hz
          go_wp2
          go_meet
          case rel => exact ⟨rfl, rfl⟩
      · have hz' : z = false := by rw [← hz]; simp [p1]
        subst hz'
        clear hz
        go_wp2
        go_meet
        case rel => exact ⟨rfl, rfl⟩
    case rest =>
      obtain ⟨rfl, hwc⟩ := hcut
      subst hwc
      cases z with
      | true =>
        as_aux_lemma =>
        simp only [decide_eq_true_eq] at hz
        obtain ⟨t1, t2⟩ := hz
        have hl1 : r < len := by omega
        have h0 := hao (by omega)
        subst h0
        obtain ⟨g, o, hS, hM⟩ := HH.out
        obtain ⟨e0, e1, e2, e3⟩ := (HC.out r hl1).still hS.side.kept
        have HS : Hid (FTab w T p B q N F g o wc ∧ FdsF o g) := ⟨hS, hM⟩
        clear HH hS hM hao e0
        generalize Q r = y at *
        obtain ⟨p1, hp1, hp2⟩ : ∃ p1 : Nat, (p1 : Int) = 0 + y.p % (1 - 0 + 1) ∧ p1 < 2 := ⟨(0 + y.p % (1 - 0 + 1)).toNat, by omega, by omega⟩
        obtain ⟨d1, hd1, hd2⟩ : ∃ d1 : Nat, (d1 : Int) = 0 + y.a % (5 - 0 + 1) ∧ d1 < 6 := ⟨(0 + y.a % (5 - 0 + 1)).toNat, by omega, by omega⟩
        have q1 := fun w => within_any y.p 0 1 (by omega) (by omega) (by omega) w
        have q2 := fun w => within_any y.a 0 5 (by omega) (by omega) (by omega) w
        rw [← hp1] at q1
        rw [← hd1] at q2
        clear hp1 hd1
        go_upto_region 13 with fail
        go_cut [9, 10] from 45 to 56 (fun a b wx => a = .int .i64 p1 ∧ b = .int .i64 d1 ∧ Kept (fun _ => False) wc wx)
        case first =>
          as_aux_lemma =>
          have KS : ∀ w', Kept (fun _ => False) wc w' → (w'.cell? ⟨lb, off + r * 4 + 1, none⟩ = some (.int .i64 y.p) ∧ w'.cell? ⟨lb, off + r * 4 + 2, none⟩ = some (.int .i64 y.a)) := fun w' hk' => ⟨hk'.cell e1 (fun x => x), hk'.cell e2 (fun x => x)⟩
          clear HS e1 e2 e3 HC
          refine wp_region_held_drew (S := fun w' => Kept (fun _ => False) wc w') (by kernel_rfl) ((Kept.refl _ _).drew) (fun hHeld => ?_)
          refine h_take 0 (some 45) (Op.move (Operand.tmp 0)) 38 ?v1 rfl rfl (by kernel_rfl) (by kernel_rfl) (by kernel_rfl) (fun _ _ _ h => h) ?hy1 hHeld ?_
          case hy1 => (intro _ _ _ w hSw; have hcs := KS _ hSw; go_simp; try with_reducible rfl)
          simp only [Act.put, List.setIfInBounds_toArray, List.set_cons_zero, List.set_cons_succ]
          refine h_take 1 (some 46) (Op.move (Operand.tmp 8)) 3 ?v2 rfl rfl (by kernel_rfl) (by kernel_rfl) (by kernel_rfl) (fun _ _ _ h => h) ?hy2 hHeld ?_
          case hy2 => (intro _ _ _ w hSw; have hcs := KS _ hSw; go_simp; try with_reducible rfl)
          simp only [Act.put, List.setIfInBounds_toArray, List.set_cons_zero, List.set_cons_succ]
          refine h_take 2 (some 47) (Op.indexAddr 38 (Operand.tmp 45) (Operand.tmp 46)) 0 ?v3 rfl rfl (by kernel_rfl) (by kernel_rfl) (by kernel_rfl) (fun _ _ _ h => h) ?hy3 hHeld ?_
          case hy3 => (intro _ _ _ w hSw; have hcs := KS _ hSw; go_simp; try with_reducible rfl)
          simp only [Act.put, List.setIfInBounds_toArray, List.set_cons_zero, List.set_cons_succ]
          refine h_take 3 (some 48) (Op.fieldAddr 43 (Operand.tmp 47) 1) 0 ?v4 rfl rfl (by kernel_rfl) (by kernel_rfl) (by kernel_rfl) (fun _ _ _ h => h) ?hy4 hHeld ?_
          case hy4 => (intro _ _ _ w hSw; have hcs := KS _ hSw; go_simp; try with_reducible rfl)
          simp only [Act.put, List.setIfInBounds_toArray, List.set_cons_zero, List.set_cons_succ]
          refine h_take 4 (some 49) (Op.load 3 (Operand.tmp 48)) 3 ?v5 rfl rfl (by kernel_rfl) (by kernel_rfl) (by kernel_rfl) (fun _ _ _ h => h) ?hy5 hHeld ?_
          case hy5 => (intro _ _ _ w hSw; have hcs := KS _ hSw; go_simp; try with_reducible rfl)
          simp only [Act.put, List.setIfInBounds_toArray, List.set_cons_zero, List.set_cons_succ]
          refine h_take 6 (some 51) (Op.move (Operand.tmp 0)) 38 ?v6 rfl rfl (by kernel_rfl) (by kernel_rfl) (by kernel_rfl) (fun _ _ _ h => h) ?hy6 hHeld ?_
          case hy6 => (intro _ _ _ w hSw; have hcs := KS _ hSw; go_simp; try with_reducible rfl)
          simp only [Act.put, List.setIfInBounds_toArray, List.set_cons_zero, List.set_cons_succ]
          refine h_take 7 (some 52) (Op.move (Operand.tmp 8)) 3 ?v7 rfl rfl (by kernel_rfl) (by kernel_rfl) (by kernel_rfl) (fun _ _ _ h => h) ?hy7 hHeld ?_
          case hy7 => (intro _ _ _ w hSw; have hcs := KS _ hSw; go_simp; try with_reducible rfl)
          simp only [Act.put, List.setIfInBounds_toArray, List.set_cons_zero, List.set_cons_succ]
          refine h_take 8 (some 53) (Op.indexAddr 38 (Operand.tmp 51) (Operand.tmp 52)) 0 ?v8 rfl rfl (by kernel_rfl) (by kernel_rfl) (by kernel_rfl) (fun _ _ _ h => h) ?hy8 hHeld ?_
          case hy8 => (intro _ _ _ w hSw; have hcs := KS _ hSw; go_simp; try with_reducible rfl)
          simp only [Act.put, List.setIfInBounds_toArray, List.set_cons_zero, List.set_cons_succ]
          refine h_take 9 (some 54) (Op.fieldAddr 43 (Operand.tmp 53) 2) 0 ?v9 rfl rfl (by kernel_rfl) (by kernel_rfl) (by kernel_rfl) (fun _ _ _ h => h) ?hy9 hHeld ?_
          case hy9 => (intro _ _ _ w hSw; have hcs := KS _ hSw; go_simp; try with_reducible rfl)
          simp only [Act.put, List.setIfInBounds_toArray, List.set_cons_zero, List.set_cons_succ]
          refine h_take 10 (some 55) (Op.load 3 (Operand.tmp 54)) 3 ?v10 rfl rfl (by kernel_rfl) (by kernel_rfl) (by kernel_rfl) (fun _ _ _ h => h) ?hy10 hHeld ?_
          case hy10 => (intro _ _ _ w hSw; have hcs := KS _ hSw; go_simp; try with_reducible rfl)
          simp only [Act.put, List.setIfInBounds_toArray, List.set_cons_zero, List.set_cons_succ]
          have j0 : Kept (fun _ => False) wc wc.drew := (Kept.refl _ _).drew
          obtain ⟨x0, hx0⟩ : ∃ x0, wc.drew = x0 := ⟨_, rfl⟩
          rw [hx0] at j0 hHeld ⊢
          clear hx0
          refine h_step 5 (some 50) (Op.call { callee := Callee.value (Operand.func 14), args := #[Operand.tmp 49, Operand.const (Value.int IntKind.i64 0), Operand.const (Value.int IntKind.i64 1)], argTypes := #[3, 3, 3] }) 3 rfl rfl (by kernel_rfl) (fun _ _ _ K hK => ?_)
          go_simp
          refine (q1 _).mono ?_
          rintro e x1 ⟨rfl, hx⟩
          subst hx
          go_wp2_with fail
          refine hK.out _ _ (j0) (fun hHeld => ?_)
          clear hK K
          try simp only [Act.put, List.setIfInBounds_toArray, List.set_cons_zero, List.set_cons_succ]
          refine h_step 11 (some 56) (Op.call { callee := Callee.value (Operand.func 14), args := #[Operand.tmp 55, Operand.const (Value.int IntKind.i64 0), Operand.const (Value.int IntKind.i64 5)], argTypes := #[3, 3, 3] }) 3 rfl rfl (by kernel_rfl) (fun _ _ _ K hK => ?_)
          go_simp
          refine (q2 _).mono ?_
          rintro e x2 ⟨rfl, hx⟩
          subst hx
          go_wp2_with fail
          refine hK.out _ _ (j0) (fun hHeld => ?_)
          clear hK K
          try simp only [Act.put, List.setIfInBounds_toArray, List.set_cons_zero, List.set_cons_succ]
          refine h_take 12 (some 9) (Op.assign (Operand.tmp 50)) 3 ?v11 rfl rfl (by kernel_rfl) (by kernel_rfl) (by kernel_rfl) (fun _ _ _ h => h) ?hy11 hHeld ?_
          case hy11 => (intro _ _ _ w hSw; have hcs := KS _ hSw; go_simp; try with_reducible rfl)
          simp only [Act.put, List.setIfInBounds_toArray, List.set_cons_zero, List.set_cons_succ]
          refine h_take 13 (some 10) (Op.assign (Operand.tmp 56)) 3 ?v12 rfl rfl (by kernel_rfl) (by kernel_rfl) (by kernel_rfl) (fun _ _ _ h => h) ?hy12 hHeld ?_
          case hy12 => (intro _ _ _ w hSw; have hcs := KS _ hSw; go_simp; try with_reducible rfl)
          simp only [Act.put, List.setIfInBounds_toArray, List.set_cons_zero, List.set_cons_succ]
          refine wpAnyH_done (by kernel_rfl) ?_ _
          clear hHeld KS
          go_wp2
          go_meet
          case rel => exact ⟨rfl, rfl, j0⟩
        case rest =>
          obtain ⟨rfl, rfl, hkw⟩ := hcut
          obtain ⟨hS0, hM⟩ := HS.out
          have hS := hS0.still hkw
          have e3' := hkw.cell e3 (fun x => x)
          clear HS hS0 e1 e2 e3 hkw q1 q2
          as_aux_lemma =>
          obtain ⟨z, hz1, hz2, hz3⟩ : ∃ z : Int, z = 0 + y.b % (12 - 0 + 1) ∧ 0 ≤ z ∧ z ≤ 12 := ⟨_, rfl, by omega, by omega⟩
          have hd3 : (d1 : Int) < 6 := by omega
          have hp3 : (p1 : Int) < 2 := by omega
          go_wp2_with fail
          refine (within_any y.b 0 12 (by omega) (by omega) (by omega) _).mono ?_
          rintro e x1 ⟨rfl, hx⟩
          subst hx
          rw [← hz1]
          clear hz1 e3'
          go_wp2_with fail
          refine (side_sd hS.side (p1 : Int) (d1 : Int) (z - 1)).mono ?_
          rintro e w5 ⟨rfl, h5, k5⟩
          rw [hM.sd_is hp2 hd2 (by omega)]
          have hS5 := hS.view h5 k5
          have hM5 := hM.sd hp2 hd2 hz2 hz3
          clear hS hM h5 k5
          generalize sdT f0 g (p1 : Int) (d1 : Int) (z - 1) = g5 at *
          go_wp2_with fail
          refine (side_sd hS5.side (p1 : Int) (d1 : Int) 12).mono ?_
          rintro e w6 ⟨rfl, h6, k6⟩
          have hb6 := no_file g5 (p1 : Int) (d1 : Int)
          rw [hb6]
          have hS6 := hS5.view h6 k6
          have hM6 := hM5.sd_f hb6
          clear hS5 hM5 h6 k6 hb6
          generalize sdT f0 g5 (p1 : Int) (d1 : Int) 12 = g6 at *
          go_wp2_with fail
          refine (side_sd hS6.side (p1 : Int) (6 + (d1 : Int)) (z - 1)).mono ?_
          rintro e w7 ⟨rfl, h7, k7⟩
          have hb7 := no_fd g6 (p1 : Int) d1 (z - 1)
          rw [hb7]
          have hS7 := hS6.view h7 k7
          have hM7 := hM6.sd_f hb7
          clear hS6 hM6 h7 k7 hb7
          generalize sdT f0 g6 (p1 : Int) (6 + (d1 : Int)) (z - 1) = g7 at *
          go_wp2_with fail
          refine (side_sd hS7.side 2 (d1 : Int) (z - 1)).mono ?_
          rintro e w8 ⟨rfl, h8, k8⟩
          have hb8 := hM7.no3 (d1 : Int) (z - 1)
          rw [hb8]
          have hS8 := hS7.view h8 k8
          have hM8 := hM7.sd_f hb8
          clear hS7 hM7 h8 k8 hb8
          generalize sdT f0 g7 2 (d1 : Int) (z - 1) = g8 at *
          have co := hS8.co (show p1 * 6 + d1 < 12 by omega)
          have fo := free_at hS8.o (p1 * 6 + d1)
          have HS8 : Hid (FTab w T p B q N F g8 (upn o (p1 * 6 + d1) z) (w8.setCell ⟨F, p1 * 6 + d1, none⟩ (.int .i64 z)) ∧ FdsF (upn o (p1 * 6 + d1) z) g8) := ⟨hS8.set _ _, hM8⟩
          clear hS8 hM8
          go_upto_region 18 with fail
          clear co fo
          generalize w8.setCell ⟨F, p1 * 6 + d1, none⟩ (.int .i64 z) = w9 at *
          have HS : Hid (∃ g, FTab w T p B q N F g (upn o (p1 * 6 + d1) z) w9 ∧ FdsF (upn o (p1 * 6 + d1) z) g) := ⟨_, HS8.out⟩
          generalize upn o (p1 * 6 + d1) z = o2 at *
          clear HS8
          as_aux_lemma =>
          go_wp2_with fail
          go_loopw [96] (fun v wr => ∃ k : Nat, v = .int .i64 k ∧ k ≤ 2 ∧ Hid (∃ g, FTab w T p B q N F g o2 wr ∧ FdsF o2 g)) (fun v _ => 2 - (intOf v).toNat)
          case atStart => exact ⟨0, rfl, by omega, HS.out⟩
          case round =>
            clear HS
            obtain ⟨k, rfl, hk, HH⟩ := hrel
            by_cases hlt : k < 2
            · skip
              as_aux_lemma =>
              have t3 : (k : Int) < 2 := by omega
              have H0 : Hid (∃ g, FTab w T p B q N F g o2 wr ∧ FdsF o2 g) := HH.out
              clear HH
              go_wp2_with fail
              go_loopw [13, 14] (fun fr v wr => ∃ n : Nat, v = .int .i64 (5 - (n : Int)) ∧ n ≤ 6 ∧ fr = .int .i64 (frk o2 k n) ∧ Hid (∃ g, FTab w T p B q N F g o2 wr ∧ FdsF o2 g)) (fun _ v _ => (intOf v + 1).toNat)
              case atStart => exact ⟨0, rfl, by omega, rfl, H0.out⟩
              case round =>
                clear H0
                obtain ⟨n, rfl, hn, rfl, HH⟩ := hrel
                obtain ⟨g, hS, hM⟩ := HH.out
                clear HH
                by_cases hl2 : n < 6
                · skip
                  as_aux_lemma =>
                  obtain ⟨d, hd⟩ : ∃ d : Nat, 5 - n = d := ⟨_, rfl⟩
                  have hd' : (5 : Int) - n = (d : Int) := by omega
                  have hfr : frk o2 k (n + 1) = if 0 < o2 (k * 6 + (5 - n)) then frk o2 k n else ((5 - n : Nat) : Int) := rfl
                  rw [hd] at hfr
                  have hd6 : d < 6 := by omega
                  have hd8 : (d : Int) < 6 := by omega
                  have hd9 : (0 : Int) ≤ (d : Int) := by omega
                  have hnd : (d : Int) - 1 = 5 - ((n + 1 : Nat) : Int) := by omega
                  rw [hd']
                  have hm1 : 5 - n = d := hd
                  clear hd hd'
                  go_wp2_with fail
                  refine (side_fd hS.side (k : Int) (d : Int)).mono ?_
                  rintro e w5 ⟨rfl, h5, k5⟩
                  rw [(hM.fd hlt hd6).1]
                  have hS5 := hS.view h5 k5
                  have hub := hM.b (k * 6 + d) (by omega)
                  have co := hS5.co (show k * 6 + d < 12 by omega)
                  have HZ : Hid (∃ g, FTab w T p B q N F g o2 w5 ∧ FdsF o2 g) := ⟨_, hS5, hM.same (get_fdT _ _)⟩
                  clear hS hM h5 k5 hS5
                  generalize o2 (k * 6 + d) = u at *
                  obtain ⟨ub1, ub2⟩ := hub
                  by_cases u1 : 0 < u
                  · rw [if_pos u1] at hfr
                    rw [if_pos u1, decide_eq_true u1]
                    have HF : Hid (frk o2 k (n + 1) = frk o2 k n) := hfr
                    clear hfr
                    go_wp2
                    exact ⟨⟨n + 1, congrArg (Value.int .i64) (by omega), by omega, by rw [HF.out], HZ⟩, by simp [intOf]; omega⟩
                  · rw [if_neg u1] at hfr
                    rw [if_neg u1, decide_eq_false u1]
                    have HF : Hid (frk o2 k (n + 1) = (d : Int)) := hfr
                    clear hfr
                    go_wp2
                    exact ⟨⟨n + 1, congrArg (Value.int .i64) (by omega), by omega, by rw [HF.out], HZ⟩, by simp [intOf]; omega⟩
                · skip
                  as_aux_lemma =>
                  obtain rfl : n = 6 := by omega
                  have hff := hM.ff hlt
                  go_wp2_with fail
                  refine (side_ff hS.side (k : Int)).mono ?_
                  rintro e w5 ⟨rfl, h5, k5⟩
                  have HZ : Hid (∃ g, FTab w T p B q N F g o2 w5 ∧ FdsF o2 g) := ⟨_, hS.view h5 k5, hM.same (get_ffT _)⟩
                  rcases hff with ⟨f1, f2⟩ | ⟨f1, f2⟩
                  · rw [f2]
                    clear hS hM h5 k5 f2
                    generalize frk o2 k 6 = fr at *
                    subst f1
                    go_wp2
                    exact ⟨⟨k + 1, by go_num, by omega, HZ⟩, by simp [intOf]; omega⟩
                  · rw [f2]
                    clear hS hM h5 k5 f2
                    generalize frk o2 k 6 = fr at *
                    go_wp2
                    exact ⟨⟨k + 1, by go_num, by omega, HZ⟩, by simp [intOf]; omega⟩
            · obtain rfl : k = 2 := by omega
              have HZ : Hid (∃ g o, FTab w T p B q N F g o wr ∧ FdsF o g) := by obtain ⟨g, h⟩ := HH.out; exact ⟨g, o2, h⟩
              clear HH
              go_wp2
              exact ⟨⟨r + 1, by go_num, by omega, by omega, HZ⟩, by simp [intOf]; omega⟩
      | false =>
        as_aux_lemma =>
        have HK : Hid (Kept (fun _ => False) w wc) := by obtain ⟨g, o, hS, -⟩ := HH.out; exact hS.side.kept
        clear HH hz hr1 hr2 hao HC
        go_wp2_with fail
        refine (runs_w wc).mono ?_
        rintro e w2 ⟨rfl, hk⟩
        have HZ : Hid (Kept (fun _ => False) w w2) := HK.out.thru hk
        clear HK hk
        go_wp2_with fail
        go_ret
        exact ⟨rfl, HZ.out⟩
end Go.Proofs.Ytiklclmpealllaa
