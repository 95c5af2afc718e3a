
/- Numbers are had while there are some, each once; pids rise; who is whose child is told; who is freed is had again; no conditions. -/
import Derived.Test.YtiklclmpealllaaPrO
import Derived.Test.YtiklclmpealllaaOpenArgs
import Derived.Deep.CutBlock
namespace Go.Proofs.Ytiklclmpealllaa
open Go.RowKit
set_option maxRecDepth 100000
set_option linter.unusedSimpArgs false

theorem bcs_none : (bcs (fun _ => false)).toArray = #[.bool false, .bool false, .bool false, .bool false, .bool false, .bool false, .bool false, .bool false] := rfl
theorem ics_none : (ics 8 (fun _ => 0)).toArray = #[.int .i64 0, .int .i64 0, .int .i64 0, .int .i64 0, .int .i64 0, .int .i64 0, .int .i64 0, .int .i64 0] := rfl

set_option maxHeartbeats 4000000 in
theorem table_law (ao : Option Addr) (len cap lb off : Nat) (Q : Nat → QA) (hao : 0 < len → ao = some ⟨lb, off, none⟩) (w : World) (hc : ∀ i, i < len → QAt w lb (off + i * 4) (Q i)) :
    Calls Try.prog 4 #[.slice ao len cap] w fun e w' => e = .returned (.bool true) ∧ Kept (fun _ => False) w w' := by
  have HC : Hid (∀ i, i < len → QAt w lb (off + i * 4) (Q i)) := hc
  clear hc
  go_enter Try.func4, Try.ntmps4
  go_wp2_with fail
  refine (side_new w).mono ?_
  rintro e w1 ⟨T, p, B, q, N, rfl, h1, hT⟩
  clear hT
  have c1 := h1.t
  obtain ⟨F, hF⟩ : ∃ F : Nat, w1.heap.size = F := ⟨_, rfl⟩
  have H0 : Hid (PTab w T p B q N F g0 (fun _ => false) (fun _ => 0) (fun _ => 0) (((w1.alloc (.cells (bcs (fun _ => false)).toArray 39)).alloc (.cells (ics 8 (fun _ => 0)).toArray 40)).alloc (.cells (ics 8 (fun _ => 0)).toArray 40))) := by
    have hl := h1.lows
    rw [hF] at hl
    refine ⟨h1.still (((Kept.refl _ _).alloc _).alloc _ |>.alloc _), ?_, ?_, ?_, hl⟩
    · exact alloc_off (alloc_off (alloc_at' _ hF))
    · exact alloc_off (alloc_at' _ (by simp [hF]))
    · exact alloc_at' _ (by simp [hF])
  rw [bcs_none, ics_none] at H0
  obtain ⟨w2, h2⟩ : ∃ w2, ((w1.alloc (.cells #[.bool false, .bool false, .bool false, .bool false, .bool false, .bool false, .bool false, .bool false] 39)).alloc (.cells #[.int .i64 0, .int .i64 0, .int .i64 0, .int .i64 0, .int .i64 0, .int .i64 0, .int .i64 0, .int .i64 0] 40)).alloc (.cells #[.int .i64 0, .int .i64 0, .int .i64 0, .int .i64 0, .int .i64 0, .int .i64 0, .int .i64 0, .int .i64 0] 40) = w2 := ⟨_, rfl⟩
  rw [h2] at H0
  clear h1
  go_wp2_with fail
  try rw [h2]
  clear h2 c1 hF
  go_loopw [8, 9, 10] (fun uL un v wr => ∃ r L n : Nat, uL = .int .i64 L ∧ un = .int .i64 n ∧ v = .int .i64 r ∧ r ≤ len ∧ r ≤ 40 ∧ L ≤ r ∧ Hid (∃ g us pa pi, PTab w T p B q N F g us pa pi wr ∧ ProcF us pa pi L g ∧ cntU us = n)) (fun _ _ v _ => 40 - (intOf v).toNat)
  case atStart => exact ⟨0, 0, 0, rfl, rfl, rfl, by omega, by omega, by omega, _, _, _, _, H0.out, table0, cnt_none⟩
  case round =>
    clear H0
    obtain ⟨r, L, n, rfl, rfl, rfl, hr1, hr2, hL, HH⟩ := hrel
    obtain ⟨z, hz⟩ : ∃ z : Bool, decide ((r : Int) < (len : Int) ∧ (r : Int) < 40) = z := ⟨_, rfl⟩
    go_upto_region 9 with fail
    go_cut [34] from 27 to 34 (fun v wx => v = .bool z ∧ wx = wr)
    case first =>
      as_aux_lemma =>
      by_cases p1 : (r : Int) < (len : Int)
      · by_cases p2 : (r : Int) < 40
        · have hz' : z = true := by rw [← hz]; simp [p1, p2]
          subst hz'
          clear hz
          go_wp2
          go_meet
          case rel => exact ⟨rfl, rfl⟩
        · have hz' : z = false := by rw [← hz]; simp [p1, p2]
          subst hz'
          clear hz
          go_wp2
          go_meet
          case rel => exact ⟨rfl, rfl⟩
      · have hz' : z = false := by rw [← hz]; simp [p1]
        subst hz'
        clear hz
        go_wp2
        go_meet
        case rel => exact ⟨rfl, rfl⟩
    case rest =>
      obtain ⟨rfl, hwc⟩ := hcut
      subst hwc
      cases z with
      | true =>
        as_aux_lemma =>
        simp only [decide_eq_true_eq] at hz
        obtain ⟨t1, t2⟩ := hz
        have hl1 : r < len := by omega
        have h0 := hao (by omega)
        subst h0
        obtain ⟨g, us, pa, pi, hS, hM, hn⟩ := HH.out
        obtain ⟨e0, e1, -, -⟩ := (HC.out r hl1).still hS.side.kept
        have HS : Hid (PTab w T p B q N F g us pa pi wc ∧ ProcF us pa pi L g ∧ cntU us = n) := ⟨hS, hM, hn⟩
        clear HH hS hM hn hao
        generalize Q r = y at *
        go_wp2_with fail
        refine (within_any y.p 0 7 (by omega) (by omega) (by omega) wc).mono ?_
        rintro e w6 ⟨rfl, hw⟩
        subst hw
        obtain ⟨n1, hn1⟩ : ∃ n1 : Nat, (n1 : Int) = 0 + y.p % (7 - 0 + 1) ∧ n1 < 8 := ⟨(0 + y.p % (7 - 0 + 1)).toNat, by omega, by omega⟩
        obtain ⟨hn1, hn2⟩ := hn1
        rw [← hn1]
        have hn3 : (n1 : Int) < 8 := by omega
        clear hn1 e1
        by_cases q2 : y.k = 2
        · skip
          as_aux_lemma =>
          go_upto_region 13 with fail
          go_cut [55] from 49 to 55 (fun v wx => v = .bool false ∧ Hid (∃ g', PTab w T p B q N F g' us pa pi wx ∧ ProcF (upn us n1 false) pa pi L g'))
          case first =>
            as_aux_lemma =>
            obtain ⟨hS, hM, hn⟩ := HS.out
            have hR := hM.r hn2
            have HM : Hid (ProcF (upn us n1 false) pa pi L (frT f0 g (n1 : Int))) := by
              cases hu : us n1 with
              | true => exact hM.free hn2 hu
              | false =>
                have e : upn us n1 false = us := by
                  funext j
                  unfold upn
                  by_cases c : j = n1
                  · rw [if_pos c, c, hu]
                  · rw [if_neg c]
                rw [e]
                exact hM.gone hn2 hu
            have KS : ∀ w', Kept (fun n => n = N) w6 w' → w'.cell? ⟨F, n1, none⟩ = some (.bool (us n1)) := fun w' hk => hS.cuv hk hn2
            clear HS hM hn
            refine wp_region_held_drew (S := fun w' => Kept (fun n => n = N) w6 w') (by kernel_rfl) ((Kept.refl _ _).drew) (fun hHeld => ?_)
            refine h_take 0 (some 49) (Op.move (Operand.tmp 4)) 25 ?v1 rfl rfl (by kernel_rfl) (by kernel_rfl) (by kernel_rfl) (fun _ _ _ h => h) ?hy1 hHeld ?_
            case hy1 => (intro _ _ _ w hSw; have hcs := KS _ hSw; go_simp; try with_reducible rfl)
            simp only [Act.put, List.setIfInBounds_toArray, List.set_cons_zero, List.set_cons_succ]
            refine h_take 1 (some 50) (Op.move (Operand.tmp 11)) 3 ?v2 rfl rfl (by kernel_rfl) (by kernel_rfl) (by kernel_rfl) (fun _ _ _ h => h) ?hy2 hHeld ?_
            case hy2 => (intro _ _ _ w hSw; have hcs := KS _ hSw; go_simp; try with_reducible rfl)
            simp only [Act.put, List.setIfInBounds_toArray, List.set_cons_zero, List.set_cons_succ]
            refine h_take 3 (some 52) (Op.move (Operand.tmp 11)) 3 ?v3 rfl rfl (by kernel_rfl) (by kernel_rfl) (by kernel_rfl) (fun _ _ _ h => h) ?hy3 hHeld ?_
            case hy3 => (intro _ _ _ w hSw; have hcs := KS _ hSw; go_simp; try with_reducible rfl)
            simp only [Act.put, List.setIfInBounds_toArray, List.set_cons_zero, List.set_cons_succ]
            refine h_take 4 (some 53) (Op.indexAddr 39 (Operand.tmp 5) (Operand.tmp 52)) 0 ?v4 rfl rfl (by kernel_rfl) (by kernel_rfl) (by kernel_rfl) (fun _ _ _ h => h) ?hy4 hHeld ?_
            case hy4 => (intro _ _ _ w hSw; have hcs := KS _ hSw; go_simp; try with_reducible rfl)
            simp only [Act.put, List.setIfInBounds_toArray, List.set_cons_zero, List.set_cons_succ]
            refine h_take 5 (some 54) (Op.load 4 (Operand.tmp 53)) 4 ?v5 rfl rfl (by kernel_rfl) (by kernel_rfl) (by kernel_rfl) (fun _ _ _ h => h) ?hy5 hHeld ?_
            case hy5 => (intro _ _ _ w hSw; have hcs := KS _ hSw; go_simp; try with_reducible rfl)
            simp only [Act.put, List.setIfInBounds_toArray, List.set_cons_zero, List.set_cons_succ]
            refine h_step 2 (some 51) (Op.call { callee := Callee.value (Operand.func 12), args := #[Operand.tmp 49, Operand.tmp 50], argTypes := #[25, 3] }) 4 rfl rfl (by kernel_rfl) (fun _ _ _ K hK => ?_)
            go_simp
            refine (side_fr (hS.side.still (Kept.refl _ _).drew) (n1 : Int)).mono ?_
            rintro e w7 ⟨rfl, h7, k7⟩
            rw [hR]
            have k67 : Kept (fun n => n = N) w6 w7 := (Kept.drew (Kept.refl _ w6)).trans k7 (fun _ _ e => e)
            go_wp2_with fail
            refine hK.out _ _ (k67) (fun hHeld => ?_)
            clear hK K
            try simp only [Act.put, List.setIfInBounds_toArray, List.set_cons_zero, List.set_cons_succ]
            refine h_take 6 (some 55) (Op.binOp BinOp.neq 4 (Operand.tmp 51) (Operand.tmp 54) 4) 4 (.bool false) rfl rfl (by kernel_rfl) (by kernel_rfl) (by kernel_rfl) (fun _ _ _ h => h) ?_ hHeld ?_
            · intro _ _ _ w hSw; have hcs := KS _ hSw; go_simp
            simp only [Act.put, List.setIfInBounds_toArray, List.set_cons_zero, List.set_cons_succ]
            refine wpAnyH_done (by kernel_rfl) ?_ _
            have HZ : Hid (PTab w T p B q N F (frT f0 g (n1 : Int)) us pa pi w7) := hS.view h7 k67
            clear hS h7 k7 k67 KS hHeld
            go_wp2
            go_meet
            case rel => exact And.intro rfl ⟨_, HZ.out, HM.out⟩
          case rest =>
            obtain ⟨rfl, HH⟩ := hcut
            obtain ⟨hS0, hM0, hn⟩ := HS.out
            have hn8 := cnt_le us
            obtain ⟨gx, hSx, hMx⟩ := HH.out
            have c7 := hSx.cu hn2
            obtain ⟨z, hz⟩ : ∃ z, us n1 = z := ⟨_, rfl⟩
            rw [hz] at c7
            clear HS hS0 hM0 hSx hMx
            go_upto_if 58 with fail
            go_cut [9] from 59 to 62 (fun v wx => ∃ n' : Nat, v = .int .i64 n' ∧ Hid (∃ g', PTab w T p B q N F g' (upn us n1 false) pa pi wx ∧ ProcF (upn us n1 false) pa pi L g') ∧ Hid (cntU (upn us n1 false) = n'))
            case first =>
              as_aux_lemma =>
              obtain ⟨g2, hS, hM⟩ := HH.out
              cases z with
              | false =>
                have hu : us n1 = false := hz
                clear hz
                have e : upn us n1 false = us := by
                  funext j
                  unfold upn
                  by_cases c : j = n1
                  · rw [if_pos c, c, hu]
                  · rw [if_neg c]
                rw [e] at hM
                have HZ : Hid (PTab w T p B q N F g2 us pa pi wc ∧ ProcF us pa pi L g2) := ⟨hS, hM⟩
                have HN : Hid (cntU us = n) := hn
                have HE : Hid (upn us n1 false = us) := e
                clear hu HH hS hM e hn hn8
                go_wp2
                go_meet
                case rel => exact ⟨n, rfl, by rw [HE.out]; exact ⟨_, HZ.out⟩, by rw [HE.out]; exact HN.out⟩
              | true =>
                have hu : us n1 = true := hz
                clear hz
                have hc := cnt_sub hn2 hu
                obtain ⟨n', rfl⟩ : ∃ n', n = n' + 1 := ⟨_, by rw [← hn]; exact hc⟩
                have hn9 : n' < 8 := by omega
                have f7 := free_at hS.u n1
                have HZ : Hid (PTab w T p B q N F g2 (upn us n1 false) pa pi (wc.setCell ⟨F, n1, none⟩ (.bool false)) ∧ ProcF (upn us n1 false) pa pi L g2) := ⟨(hS.set1 n1 false).1, hM⟩
                have HN : Hid (cntU (upn us n1 false) = n') := by show _ = _; omega
                clear hu HH hS hM hn hn8 hc
                go_wp2
                go_meet
                case rel => exact ⟨n', by go_num, ⟨_, HZ.out⟩, HN.out⟩
            case rest =>
              clear HH hn hn8 c7 hz
              obtain ⟨n', rfl, HS, HN⟩ := hcut
              generalize upn us n1 false = us2 at *
              have hL2 : L ≤ r + 1 := by omega
              as_aux_lemma =>
              go_wp2_with fail
              go_loopw [107] (fun v wr => ∃ k : Nat, v = .int .i64 k ∧ k ≤ 8 ∧ Hid (∃ g, PTab w T p B q N F g us2 pa pi wr ∧ ProcF us2 pa pi L g)) (fun v _ => 8 - (intOf v).toNat)
              case atStart => exact ⟨0, rfl, by omega, HS.out⟩
              case round =>
                clear HS
                obtain ⟨k, rfl, hk, HH⟩ := hrel
                by_cases hlt : k < 8
                · skip
                  as_aux_lemma =>
                  have t3 : (k : Int) < 8 := by omega
                  go_upto_region 35 with fail
                  go_cut [117] from 110 to 117 (fun v wx => v = .bool false ∧ Hid (∃ g, PTab w T p B q N F g us2 pa pi wx ∧ ProcF us2 pa pi L g))
                  case first =>
                    obtain ⟨g, hS, hM⟩ := HH.out
                    have hst : (stA f0 g (k : Int) == 1) = us2 k := by rw [hM.st hlt]; cases us2 k <;> rfl
                    have HM : Hid (ProcF us2 pa pi L (stT f0 g (k : Int))) := hM.same (get_stT _)
                    have KS : ∀ w', Kept (fun n => n = N) wr w' → w'.cell? ⟨F, k, none⟩ = some (.bool (us2 k)) := fun w' hk => hS.cuv hk hlt
                    clear HH hM HN
                    refine wp_region_held_drew (S := fun w' => Kept (fun n => n = N) wr w') (by kernel_rfl) ((Kept.refl _ _).drew) (fun hHeld => ?_)
                    refine h_take 0 (some 110) (Op.move (Operand.tmp 4)) 25 ?v6 rfl rfl (by kernel_rfl) (by kernel_rfl) (by kernel_rfl) (fun _ _ _ h => h) ?hy6 hHeld ?_
                    case hy6 => (intro _ _ _ w hSw; have hcs := KS _ hSw; go_simp; try with_reducible rfl)
                    simp only [Act.put, List.setIfInBounds_toArray, List.set_cons_zero, List.set_cons_succ]
                    refine h_take 1 (some 111) (Op.move (Operand.tmp 15)) 3 ?v7 rfl rfl (by kernel_rfl) (by kernel_rfl) (by kernel_rfl) (fun _ _ _ h => h) ?hy7 hHeld ?_
                    case hy7 => (intro _ _ _ w hSw; have hcs := KS _ hSw; go_simp; try with_reducible rfl)
                    simp only [Act.put, List.setIfInBounds_toArray, List.set_cons_zero, List.set_cons_succ]
                    refine h_take 4 (some 114) (Op.move (Operand.tmp 15)) 3 ?v8 rfl rfl (by kernel_rfl) (by kernel_rfl) (by kernel_rfl) (fun _ _ _ h => h) ?hy8 hHeld ?_
                    case hy8 => (intro _ _ _ w hSw; have hcs := KS _ hSw; go_simp; try with_reducible rfl)
                    simp only [Act.put, List.setIfInBounds_toArray, List.set_cons_zero, List.set_cons_succ]
                    refine h_take 5 (some 115) (Op.indexAddr 39 (Operand.tmp 5) (Operand.tmp 114)) 0 ?v9 rfl rfl (by kernel_rfl) (by kernel_rfl) (by kernel_rfl) (fun _ _ _ h => h) ?hy9 hHeld ?_
                    case hy9 => (intro _ _ _ w hSw; have hcs := KS _ hSw; go_simp; try with_reducible rfl)
                    simp only [Act.put, List.setIfInBounds_toArray, List.set_cons_zero, List.set_cons_succ]
                    refine h_take 6 (some 116) (Op.load 4 (Operand.tmp 115)) 4 ?v10 rfl rfl (by kernel_rfl) (by kernel_rfl) (by kernel_rfl) (fun _ _ _ h => h) ?hy10 hHeld ?_
                    case hy10 => (intro _ _ _ w hSw; have hcs := KS _ hSw; go_simp; try with_reducible rfl)
                    simp only [Act.put, List.setIfInBounds_toArray, List.set_cons_zero, List.set_cons_succ]
                    refine h_step 2 (some 112) (Op.call { callee := Callee.value (Operand.func 15), args := #[Operand.tmp 110, Operand.tmp 111], argTypes := #[25, 3] }) 3 rfl rfl (by kernel_rfl) (fun _ _ _ K hK => ?_)
                    go_simp
                    refine (side_state (hS.side.still (Kept.refl _ _).drew) (k : Int)).mono ?_
                    rintro e w7 ⟨rfl, h7, k7⟩
                    have k67 : Kept (fun n => n = N) wr w7 := (Kept.drew (Kept.refl _ wr)).trans k7 (fun _ _ e => e)
                    go_wp2_with fail
                    refine hK.out _ _ (k67) (fun hHeld => ?_)
                    clear hK K
                    try simp only [Act.put, List.setIfInBounds_toArray, List.set_cons_zero, List.set_cons_succ]
                    refine h_take 3 (some 113) (Op.binOp BinOp.eql 3 (Operand.tmp 112) (Operand.const (Value.int IntKind.i64 1)) 3) 4 (.bool (us2 k)) rfl rfl (by kernel_rfl) (by kernel_rfl) (by kernel_rfl) (fun _ _ _ h => h) ?_ hHeld ?_
                    · intro _ _ _ w hSw; have hcs := KS _ hSw; go_simp
                    simp only [Act.put, List.setIfInBounds_toArray, List.set_cons_zero, List.set_cons_succ]
                    refine h_take 7 (some 117) (Op.binOp BinOp.neq 4 (Operand.tmp 113) (Operand.tmp 116) 4) 4 (.bool false) rfl rfl (by kernel_rfl) (by kernel_rfl) (by kernel_rfl) (fun _ _ _ h => h) ?_ hHeld ?_
                    · intro _ _ _ w hSw; have hcs := KS _ hSw; go_simp
                    simp only [Act.put, List.setIfInBounds_toArray, List.set_cons_zero, List.set_cons_succ]
                    refine wpAnyH_done (by kernel_rfl) ?_ _
                    have HZ : Hid (PTab w T p B q N F (stT f0 g (k : Int)) us2 pa pi w7) := hS.view h7 k67
                    clear hS h7 k7 k67 KS hHeld hst
                    go_wp2
                    go_meet
                    case rel => exact And.intro rfl ⟨_, HZ.out, HM.out⟩
                  case rest =>
                    clear HH
                    obtain ⟨rfl, HH⟩ := hcut
                    obtain ⟨g2, hS2, hM2⟩ := HH.out
                    have ci := hS2.ci hlt
                    go_wp2_with fail
                    refine (side_bypid hS2.side (pi k)).mono ?_
                    rintro e w8 ⟨rfl, h8, k8⟩
                    obtain ⟨x, b, hx, hxb⟩ : ∃ (x : Int) (b : Bool), nwR (pidA f0 g2 (pi k)) = .tuple #[.int .i64 x, .bool b] ∧ (us2 k = true → x = k ∧ b = true) := ⟨_, _, rfl, fun hu => by rw [hM2.bypid hlt hu]; exact ⟨if_pos t3, decide_eq_true t3⟩⟩
                    rw [hx]
                    have hS8 := hS2.view h8 k8
                    have cu := hS8.cu hlt
                    obtain ⟨z, hz⟩ : ∃ z, us2 k = z := ⟨_, rfl⟩
                    rw [hz] at cu hxb
                    have HW : Hid (PTab w T p B q N F (pidT f0 g2 (pi k)) us2 pa pi w8 ∧ ProcF us2 pa pi L (pidT f0 g2 (pi k))) := ⟨hS8, hM2.same (get_pidT _)⟩
                    generalize pidT f0 g2 (pi k) = g3 at *
                    clear HH hS2 hM2 h8 k8 hS8 ci hx hz
                    go_upto_region 38 with fail
                    go_cut [137] from 126 to 137 (fun v wx => v = .bool false ∧ wx = w8)
                    case first =>
                      cases z with
                      | false =>
                        clear hxb
                        go_wp2
                        go_meet
                        case rel => exact ⟨rfl, rfl⟩
                      | true =>
                        obtain ⟨rfl, rfl⟩ := hxb rfl
                        clear hxb
                        go_wp2
                        go_meet
                        case rel => exact ⟨rfl, rfl⟩
                    case rest =>
                      obtain ⟨rfl, hw⟩ := hcut
                      subst hw
                      clear hxb cu
                      have H0 : Hid (OwnX (fun _ => False) wc (.slice none 0 0) (kidL us2 pa k 0) wc) := OwnX.nil _
                      go_wp2_with fail
                      go_loopw [18, 138] (fun u v wr => ∃ j : Nat, v = .int .i64 j ∧ j ≤ 8 ∧ Hid (OwnX (fun _ => False) wc u (kidL us2 pa k j) wr)) (fun _ v _ => 8 - (intOf v).toNat)
                      case atStart => exact ⟨0, rfl, by omega, H0.out⟩
                      case round =>
                        clear H0
                        obtain ⟨j, rfl, hj, HO⟩ := hrel
                        by_cases hl2 : j < 8
                        · skip
                          as_aux_lemma =>
                          have t4 : (j : Int) < 8 := by omega
                          have hO := HO.out
                          have hS9 := HW.out.1.still hO.kept
                          have cj := hS9.cu hl2
                          have pj := hS9.ca hl2
                          have hsucc := kidL_succ us2 pa k j
                          have hlen := kidL_len us2 pa k j
                          obtain ⟨a, ha⟩ : ∃ a, us2 j = a := ⟨_, rfl⟩
                          obtain ⟨x, hx⟩ : ∃ x, pa j = x := ⟨_, rfl⟩
                          rw [ha] at cj hsucc
                          rw [hx] at pj hsucc
                          clear ha hx hS9 HO
                          go_upto_region 44 with fail
                          go_cut [150] from 141 to 150 (fun v wx => ∃ d : Bool, v = .bool d ∧ d = (a && (x == (k : Int))) ∧ wx = wr)
                          case first =>
                            clear hsucc hlen hO
                            cases a with
                            | false =>
                              go_wp2
                              go_meet
                              case rel => exact ⟨false, rfl, rfl, rfl⟩
                            | true =>
                              obtain ⟨d, hd⟩ : ∃ d, (x == (k : Int)) = d := ⟨_, rfl⟩
                              go_wp2
                              go_meet
                              case rel => exact ⟨d, rfl, by simp [hd], rfl⟩
                          case rest =>
                            obtain ⟨d, rfl, hd, hw⟩ := hcut
                            subst hw
                            rw [← hd] at hsucc
                            clear cj pj hd
                            cases d with
                            | true =>
                              rw [if_pos rfl] at hsucc
                              obtain ⟨E, hE⟩ : ∃ E : Nat, wc.heap.size = E := ⟨_, rfl⟩
                              have k1 : Kept (fun _ => False) wc (wc.alloc (.cells #[.int .i64 j] 3)) := (Kept.refl _ _).alloc _
                              have HS : Hid _ := hO.still k1 (fun k e => e.elim)
                              have HN2 : Hid (SrcI (.slice (some ⟨E, 0, none⟩) 1 1) [(j : Int)] (wc.alloc (.cells #[.int .i64 j] 3))) := SrcI.lone (alloc_at' _ hE)
                              clear hO k1
                              go_wp2_with (at_builtin; refine listI_app rfl _ _ rfl (fun _ => False) _ _ [(j : Int)] HS.out HN2.out (by simp; omega) ?_; intro v w6 h6 hg6)
                              rw [← hsucc] at h6
                              have H6 : Hid _ := h6
                              clear h6 hg6 HS HN2 hsucc
                              go_wp2
                              exact ⟨⟨j + 1, by go_num, by omega, H6⟩, by simp [intOf]; omega⟩
                            | false =>
                              simp only [Bool.false_eq_true, if_false, List.append_nil] at hsucc
                              rw [← hsucc] at hO
                              have H6 : Hid _ := hO
                              clear hO hsucc
                              go_wp2
                              exact ⟨⟨j + 1, by go_num, by omega, H6⟩, by simp [intOf]; omega⟩
                        · skip
                          as_aux_lemma =>
                          obtain rfl : j = 8 := by omega
                          have hO := HO.out
                          have hS9 := HW.out.1.still hO.kept
                          have hM := HW.out.2
                          have hN := HW.out.1.side.v.map.lt
                          clear HO HW
                          go_wp2_with fail
                          refine (side_kids hS9.side (k : Int)).mono ?_
                          rintro e wa ⟨v, rfl, oa, ha⟩
                          rw [show wrap64 ((k : Int) + 1) = (k : Int) + 1 from wrap_little (by omega) (by omega), hM.kids] at oa
                          have H1 : Hid (SrcI v (kidL us2 pa k 8) wa) := oa.src
                          have H2 : Hid (SrcI u18 (kidL us2 pa k 8) wa) := hO.src.kept oa.kept (fun b e => by have := (hO.young e).1; show ¬ b = N; omega)
                          have hlen := kidL_len us2 pa k 8
                          have HW : Hid (PTab w T p B q N F (walkT f0 g3 8) us2 pa pi wa ∧ ProcF us2 pa pi L (walkT f0 g3 8)) := ⟨hS9.view ha oa.kept, hM.same (get_walk 8)⟩
                          clear hO hS9 hM hN oa ha
                          go_wp2_with fail
                          refine (sameI_w v _ _ (by omega) _ H1.out H2.out).mono ?_
                          rintro e wb ⟨rfl, m, rfl⟩
                          have HZ : Hid (∃ g, PTab w T p B q N F g us2 pa pi (wa.drewN m) ∧ ProcF us2 pa pi L g) := ⟨_, HW.out.1.still (kept_drewN _ _), HW.out.2⟩
                          clear HW H1 H2
                          go_wp2
                          exact ⟨⟨k + 1, by go_num, by omega, HZ⟩, by simp [intOf]; omega⟩
                · obtain rfl : k = 8 := by omega
                  obtain ⟨g, hS, hM⟩ := HH.out
                  have HZ : Hid (∃ g us pa pi, PTab w T p B q N F g us pa pi wr ∧ ProcF us pa pi L g ∧ cntU us = n') := ⟨g, us2, pa, pi, hS, hM, HN.out⟩
                  clear HH hS hM HN
                  go_wp2
                  exact ⟨⟨r + 1, L, n', rfl, rfl, by go_num, by omega, by omega, by omega, HZ⟩, by simp [intOf]; omega⟩
        · skip
          as_aux_lemma =>
          obtain ⟨hS, hM, hn⟩ := HS.out
          have hn8 := cnt_le us
          by_cases hroom : n < 8
          · skip
            as_aux_lemma =>
            obtain ⟨k, k1, k2, k3⟩ := cnt_room (us := us) (by omega)
            obtain ⟨ha, hM2⟩ := hM.new k1 k2 k3 (p := (n1 : Int)) (by omega) (by omega) (by omega) (by omega)
            have hc := cnt_add k1 k2
            have t3 : (n : Int) < 8 := by omega
            have t4 : ¬ (k : Int) < 0 := by omega
            have t5 : (k : Int) < 8 := by omega
            go_wp2_with fail
            refine (side_nw hS.side (n1 : Int)).mono ?_
            rintro e w7 ⟨rfl, h7, k7⟩
            rw [ha, show nwR (k : Int) = .tuple #[.int .i64 k, .bool true] from by unfold nwR; rw [if_pos t5, decide_eq_true t5]]
            have hS7 := hS.view h7 k7
            have ck := hS7.cu k1
            rw [k2] at ck
            have HM : Hid (ProcF (upn us k true) (upn pa k n1) (upn pi k (L + 1)) (L + 1) (nwT f0 g n1) ∧ cntU (upn us k true) = n + 1) := ⟨hM2, by omega⟩
            clear HS hS hM hM2 hc hn h7 k7 ha hn8
            go_wp2_with fail
            have HT : Hid (PTab w T p B q N F (nwT f0 g n1) us pa pi w7 ∧ ∀ j, j < k → us j = true) := ⟨hS7, k3⟩
            clear hS7 k3
            go_loopw [14] (fun v wr => ∃ j : Nat, v = .int .i64 j ∧ j ≤ k ∧ wr = w7) (fun v _ => k - (intOf v).toNat)
            case atStart => exact ⟨0, rfl, by omega, rfl⟩
            case round =>
              obtain ⟨j, rfl, hj, rfl⟩ := hrel
              by_cases hlt : j < k
              · have t6 : (j : Int) < (k : Int) := by omega
                have cj := HT.out.1.cu (show j < 8 by omega)
                rw [HT.out.2 j hlt] at cj
                go_wp2
                exact ⟨⟨j + 1, by go_num, by omega, by first | rfl | trivial⟩, by simp [intOf]; omega⟩
              · obtain rfl : j = k := by omega
                clear hlt hj
                as_aux_lemma =>
                have hS7 := HT.out.1
                have ca := hS7.ca k1
                have ci := hS7.ci k1
                have fk := free_at hS7.u j
                have hS1 := (hS7.set1 j true).1
                have ca1 := hS1.ca k1
                have fa1 := free_at hS1.a j
                have hS2 := hS1.set2 j n1
                have ci2 := hS2.ci k1
                have fi2 := free_at hS2.i j
                have HS3 : Hid (PTab w T p B q N F (nwT f0 g n1) (upn us j true) (upn pa j n1) (upn pi j ((L : Int) + 1)) (((wr.setCell ⟨F, j, none⟩ (.bool true)).setCell ⟨F + 1, j, none⟩ (.int .i64 n1)).setCell ⟨F + 1 + 1, j, none⟩ (.int .i64 ((L : Int) + 1)))) := hS2.set3 j ((L : Int) + 1)
                clear hS7 hS1 hS2 HT
                have HN : Hid (cntU (upn us j true) = n + 1) := HM.out.2
                have HF : Hid (ProcF (upn us j true) (upn pa j n1) (upn pi j ((L : Int) + 1)) ((L : Int) + 1) (nwT f0 g n1)) := HM.out.1
                clear HM
                go_upto_region 32 with fail
                have HS : Hid (∃ g, PTab w T p B q N F g (upn us j true) (upn pa j n1) (upn pi j ((L : Int) + 1)) _ ∧ ProcF (upn us j true) (upn pa j n1) (upn pi j ((L : Int) + 1)) ((L : Int) + 1) g) := ⟨_, HS3.out, HF.out⟩
                clear HS3 HF ck ca ci fk ca1 fa1 ci2 fi2
                generalize ((wr.setCell ⟨F, j, none⟩ (.bool true)).setCell ⟨F + 1, j, none⟩ (.int .i64 n1)).setCell ⟨F + 1 + 1, j, none⟩ (.int .i64 ((L : Int) + 1)) = wc at *
                obtain ⟨L2, hLe⟩ : ∃ L2 : Nat, (L : Int) + 1 = (L2 : Int) := ⟨L + 1, rfl⟩
                obtain ⟨n', hne⟩ : ∃ n' : Nat, n + 1 = n' := ⟨_, rfl⟩
                have hne' : (n : Int) + 1 = (n' : Int) := by omega
                have hL2 : L2 ≤ r + 1 := by omega
                rw [hLe] at HS ⊢
                rw [hne] at HN
                rw [hne']
                generalize upn us j true = us2 at *
                generalize upn pa j (n1 : Int) = pa2 at *
                generalize upn pi j (L2 : Int) = pi2 at *
                clear hLe hne hne'
                as_aux_lemma =>
                go_wp2_with fail
                go_loopw [107] (fun v wr => ∃ k : Nat, v = .int .i64 k ∧ k ≤ 8 ∧ Hid (∃ g, PTab w T p B q N F g us2 pa2 pi2 wr ∧ ProcF us2 pa2 pi2 L2 g)) (fun v _ => 8 - (intOf v).toNat)
                case atStart => exact ⟨0, rfl, by omega, HS.out⟩
                case round =>
                  clear HS
                  obtain ⟨k, rfl, hk, HH⟩ := hrel
                  by_cases hlt : k < 8
                  · skip
                    as_aux_lemma =>
                    have t3 : (k : Int) < 8 := by omega
                    go_upto_region 35 with fail
                    go_cut [117] from 110 to 117 (fun v wx => v = .bool false ∧ Hid (∃ g, PTab w T p B q N F g us2 pa2 pi2 wx ∧ ProcF us2 pa2 pi2 L2 g))
                    case first =>
                      obtain ⟨g, hS, hM⟩ := HH.out
                      have hst : (stA f0 g (k : Int) == 1) = us2 k := by rw [hM.st hlt]; cases us2 k <;> rfl
                      have HM : Hid (ProcF us2 pa2 pi2 L2 (stT f0 g (k : Int))) := hM.same (get_stT _)
                      have KS : ∀ w', Kept (fun n => n = N) wr w' → w'.cell? ⟨F, k, none⟩ = some (.bool (us2 k)) := fun w' hk => hS.cuv hk hlt
                      clear HH hM HN
                      refine wp_region_held_drew (S := fun w' => Kept (fun n => n = N) wr w') (by kernel_rfl) ((Kept.refl _ _).drew) (fun hHeld => ?_)
                      refine h_take 0 (some 110) (Op.move (Operand.tmp 4)) 25 ?v11 rfl rfl (by kernel_rfl) (by kernel_rfl) (by kernel_rfl) (fun _ _ _ h => h) ?hy11 hHeld ?_
                      case hy11 => (intro _ _ _ w hSw; have hcs := KS _ hSw; go_simp; try with_reducible rfl)
                      simp only [Act.put, List.setIfInBounds_toArray, List.set_cons_zero, List.set_cons_succ]
                      refine h_take 1 (some 111) (Op.move (Operand.tmp 15)) 3 ?v12 rfl rfl (by kernel_rfl) (by kernel_rfl) (by kernel_rfl) (fun _ _ _ h => h) ?hy12 hHeld ?_
                      case hy12 => (intro _ _ _ w hSw; have hcs := KS _ hSw; go_simp; try with_reducible rfl)
                      simp only [Act.put, List.setIfInBounds_toArray, List.set_cons_zero, List.set_cons_succ]
                      refine h_take 4 (some 114) (Op.move (Operand.tmp 15)) 3 ?v13 rfl rfl (by kernel_rfl) (by kernel_rfl) (by kernel_rfl) (fun _ _ _ h => h) ?hy13 hHeld ?_
                      case hy13 => (intro _ _ _ w hSw; have hcs := KS _ hSw; go_simp; try with_reducible rfl)
                      simp only [Act.put, List.setIfInBounds_toArray, List.set_cons_zero, List.set_cons_succ]
                      refine h_take 5 (some 115) (Op.indexAddr 39 (Operand.tmp 5) (Operand.tmp 114)) 0 ?v14 rfl rfl (by kernel_rfl) (by kernel_rfl) (by kernel_rfl) (fun _ _ _ h => h) ?hy14 hHeld ?_
                      case hy14 => (intro _ _ _ w hSw; have hcs := KS _ hSw; go_simp; try with_reducible rfl)
                      simp only [Act.put, List.setIfInBounds_toArray, List.set_cons_zero, List.set_cons_succ]
                      refine h_take 6 (some 116) (Op.load 4 (Operand.tmp 115)) 4 ?v15 rfl rfl (by kernel_rfl) (by kernel_rfl) (by kernel_rfl) (fun _ _ _ h => h) ?hy15 hHeld ?_
                      case hy15 => (intro _ _ _ w hSw; have hcs := KS _ hSw; go_simp; try with_reducible rfl)
                      simp only [Act.put, List.setIfInBounds_toArray, List.set_cons_zero, List.set_cons_succ]
                      refine h_step 2 (some 112) (Op.call { callee := Callee.value (Operand.func 15), args := #[Operand.tmp 110, Operand.tmp 111], argTypes := #[25, 3] }) 3 rfl rfl (by kernel_rfl) (fun _ _ _ K hK => ?_)
                      go_simp
                      refine (side_state (hS.side.still (Kept.refl _ _).drew) (k : Int)).mono ?_
                      rintro e w7 ⟨rfl, h7, k7⟩
                      have k67 : Kept (fun n => n = N) wr w7 := (Kept.drew (Kept.refl _ wr)).trans k7 (fun _ _ e => e)
                      go_wp2_with fail
                      refine hK.out _ _ (k67) (fun hHeld => ?_)
                      clear hK K
                      try simp only [Act.put, List.setIfInBounds_toArray, List.set_cons_zero, List.set_cons_succ]
                      refine h_take 3 (some 113) (Op.binOp BinOp.eql 3 (Operand.tmp 112) (Operand.const (Value.int IntKind.i64 1)) 3) 4 (.bool (us2 k)) rfl rfl (by kernel_rfl) (by kernel_rfl) (by kernel_rfl) (fun _ _ _ h => h) ?_ hHeld ?_
                      · intro _ _ _ w hSw; have hcs := KS _ hSw; go_simp
                      simp only [Act.put, List.setIfInBounds_toArray, List.set_cons_zero, List.set_cons_succ]
                      refine h_take 7 (some 117) (Op.binOp BinOp.neq 4 (Operand.tmp 113) (Operand.tmp 116) 4) 4 (.bool false) rfl rfl (by kernel_rfl) (by kernel_rfl) (by kernel_rfl) (fun _ _ _ h => h) ?_ hHeld ?_
                      · intro _ _ _ w hSw; have hcs := KS _ hSw; go_simp
                      simp only [Act.put, List.setIfInBounds_toArray, List.set_cons_zero, List.set_cons_succ]
                      refine wpAnyH_done (by kernel_rfl) ?_ _
                      have HZ : Hid (PTab w T p B q N F (stT f0 g (k : Int)) us2 pa2 pi2 w7) := hS.view h7 k67
                      clear hS h7 k7 k67 KS hHeld hst
                      go_wp2
                      go_meet
                      case rel => exact And.intro rfl ⟨_, HZ.out, HM.out⟩
                    case rest =>
                      clear HH
                      obtain ⟨rfl, HH⟩ := hcut
                      obtain ⟨g2, hS2, hM2⟩ := HH.out
                      have ci := hS2.ci hlt
                      go_wp2_with fail
                      refine (side_bypid hS2.side (pi2 k)).mono ?_
                      rintro e w8 ⟨rfl, h8, k8⟩
                      obtain ⟨x, b, hx, hxb⟩ : ∃ (x : Int) (b : Bool), nwR (pidA f0 g2 (pi2 k)) = .tuple #[.int .i64 x, .bool b] ∧ (us2 k = true → x = k ∧ b = true) := ⟨_, _, rfl, fun hu => by rw [hM2.bypid hlt hu]; exact ⟨if_pos t3, decide_eq_true t3⟩⟩
                      rw [hx]
                      have hS8 := hS2.view h8 k8
                      have cu := hS8.cu hlt
                      obtain ⟨z, hz⟩ : ∃ z, us2 k = z := ⟨_, rfl⟩
                      rw [hz] at cu hxb
                      have HW : Hid (PTab w T p B q N F (pidT f0 g2 (pi2 k)) us2 pa2 pi2 w8 ∧ ProcF us2 pa2 pi2 L2 (pidT f0 g2 (pi2 k))) := ⟨hS8, hM2.same (get_pidT _)⟩
                      generalize pidT f0 g2 (pi2 k) = g3 at *
                      clear HH hS2 hM2 h8 k8 hS8 ci hx hz
                      go_upto_region 38 with fail
                      go_cut [137] from 126 to 137 (fun v wx => v = .bool false ∧ wx = w8)
                      case first =>
                        cases z with
                        | false =>
                          clear hxb
                          go_wp2
                          go_meet
                          case rel => exact ⟨rfl, rfl⟩
                        | true =>
                          obtain ⟨rfl, rfl⟩ := hxb rfl
                          clear hxb
                          go_wp2
                          go_meet
                          case rel => exact ⟨rfl, rfl⟩
                      case rest =>
                        obtain ⟨rfl, hw⟩ := hcut
                        subst hw
                        clear hxb cu
                        have H0 : Hid (OwnX (fun _ => False) wc (.slice none 0 0) (kidL us2 pa2 k 0) wc) := OwnX.nil _
                        go_wp2_with fail
                        go_loopw [18, 138] (fun u v wr => ∃ j : Nat, v = .int .i64 j ∧ j ≤ 8 ∧ Hid (OwnX (fun _ => False) wc u (kidL us2 pa2 k j) wr)) (fun _ v _ => 8 - (intOf v).toNat)
                        case atStart => exact ⟨0, rfl, by omega, H0.out⟩
                        case round =>
                          clear H0
                          obtain ⟨j, rfl, hj, HO⟩ := hrel
                          by_cases hl2 : j < 8
                          · skip
                            as_aux_lemma =>
                            have t4 : (j : Int) < 8 := by omega
                            have hO := HO.out
                            have hS9 := HW.out.1.still hO.kept
                            have cj := hS9.cu hl2
                            have pj := hS9.ca hl2
                            have hsucc := kidL_succ us2 pa2 k j
                            have hlen := kidL_len us2 pa2 k j
                            obtain ⟨a, ha⟩ : ∃ a, us2 j = a := ⟨_, rfl⟩
                            obtain ⟨x, hx⟩ : ∃ x, pa2 j = x := ⟨_, rfl⟩
                            rw [ha] at cj hsucc
                            rw [hx] at pj hsucc
                            clear ha hx hS9 HO
                            go_upto_region 44 with fail
                            go_cut [150] from 141 to 150 (fun v wx => ∃ d : Bool, v = .bool d ∧ d = (a && (x == (k : Int))) ∧ wx = wr)
                            case first =>
                              clear hsucc hlen hO
                              cases a with
                              | false =>
                                go_wp2
                                go_meet
                                case rel => exact ⟨false, rfl, rfl, rfl⟩
                              | true =>
                                obtain ⟨d, hd⟩ : ∃ d, (x == (k : Int)) = d := ⟨_, rfl⟩
                                go_wp2
                                go_meet
                                case rel => exact ⟨d, rfl, by simp [hd], rfl⟩
                            case rest =>
                              obtain ⟨d, rfl, hd, hw⟩ := hcut
                              subst hw
                              rw [← hd] at hsucc
                              clear cj pj hd
                              cases d with
                              | true =>
                                rw [if_pos rfl] at hsucc
                                obtain ⟨E, hE⟩ : ∃ E : Nat, wc.heap.size = E := ⟨_, rfl⟩
                                have k1 : Kept (fun _ => False) wc (wc.alloc (.cells #[.int .i64 j] 3)) := (Kept.refl _ _).alloc _
                                have HS : Hid _ := hO.still k1 (fun k e => e.elim)
                                have HN2 : Hid (SrcI (.slice (some ⟨E, 0, none⟩) 1 1) [(j : Int)] (wc.alloc (.cells #[.int .i64 j] 3))) := SrcI.lone (alloc_at' _ hE)
                                clear hO k1
                                go_wp2_with (at_builtin; refine listI_app rfl _ _ rfl (fun _ => False) _ _ [(j : Int)] HS.out HN2.out (by simp; omega) ?_; intro v w6 h6 hg6)
                                rw [← hsucc] at h6
                                have H6 : Hid _ := h6
                                clear h6 hg6 HS HN2 hsucc
                                go_wp2
                                exact ⟨⟨j + 1, by go_num, by omega, H6⟩, by simp [intOf]; omega⟩
                              | false =>
                                simp only [Bool.false_eq_true, if_false, List.append_nil] at hsucc
                                rw [← hsucc] at hO
                                have H6 : Hid _ := hO
                                clear hO hsucc
                                go_wp2
                                exact ⟨⟨j + 1, by go_num, by omega, H6⟩, by simp [intOf]; omega⟩
                          · skip
                            as_aux_lemma =>
                            obtain rfl : j = 8 := by omega
                            have hO := HO.out
                            have hS9 := HW.out.1.still hO.kept
                            have hM := HW.out.2
                            have hN := HW.out.1.side.v.map.lt
                            clear HO HW
                            go_wp2_with fail
                            refine (side_kids hS9.side (k : Int)).mono ?_
                            rintro e wa ⟨v, rfl, oa, ha⟩
                            rw [show wrap64 ((k : Int) + 1) = (k : Int) + 1 from wrap_little (by omega) (by omega), hM.kids] at oa
                            have H1 : Hid (SrcI v (kidL us2 pa2 k 8) wa) := oa.src
                            have H2 : Hid (SrcI u18 (kidL us2 pa2 k 8) wa) := hO.src.kept oa.kept (fun b e => by have := (hO.young e).1; show ¬ b = N; omega)
                            have hlen := kidL_len us2 pa2 k 8
                            have HW : Hid (PTab w T p B q N F (walkT f0 g3 8) us2 pa2 pi2 wa ∧ ProcF us2 pa2 pi2 L2 (walkT f0 g3 8)) := ⟨hS9.view ha oa.kept, hM.same (get_walk 8)⟩
                            clear hO hS9 hM hN oa ha
                            go_wp2_with fail
                            refine (sameI_w v _ _ (by omega) _ H1.out H2.out).mono ?_
                            rintro e wb ⟨rfl, m, rfl⟩
                            have HZ : Hid (∃ g, PTab w T p B q N F g us2 pa2 pi2 (wa.drewN m) ∧ ProcF us2 pa2 pi2 L2 g) := ⟨_, HW.out.1.still (kept_drewN _ _), HW.out.2⟩
                            clear HW H1 H2
                            go_wp2
                            exact ⟨⟨k + 1, by go_num, by omega, HZ⟩, by simp [intOf]; omega⟩
                  · obtain rfl : k = 8 := by omega
                    obtain ⟨g, hS, hM⟩ := HH.out
                    have HZ : Hid (∃ g us pa pi, PTab w T p B q N F g us pa pi wr ∧ ProcF us pa pi L2 g ∧ cntU us = n') := ⟨g, us2, pa2, pi2, hS, hM, HN.out⟩
                    clear HH hS hM HN
                    go_wp2
                    exact ⟨⟨r + 1, L2, n', rfl, rfl, by go_num, by omega, by omega, by omega, HZ⟩, by simp [intOf]; omega⟩
          · skip
            as_aux_lemma =>
            have hf := cnt_full (us := us) (by omega)
            obtain ⟨ha, hM2⟩ := hM.full hf (n1 : Int)
            have hn9 : n = 8 := by omega
            go_wp2_with fail
            refine (side_nw hS.side (n1 : Int)).mono ?_
            rintro e w7 ⟨rfl, h7, k7⟩
            rw [ha, show nwR 8 = .tuple #[.int .i64 0, .bool false] from rfl]
            have HN : Hid (∃ g us pa pi, PTab w T p B q N F g us pa pi w7 ∧ ProcF us pa pi L g ∧ cntU us = n) := ⟨_, _, _, _, hS.view h7 k7, hM2, hn⟩
            subst hn9
            clear HS hS hM hM2 h7 k7 ha hf hn
            go_wp2
            exact ⟨⟨r + 1, L, 8, rfl, rfl, by go_num, by omega, by omega, by omega, HN⟩, by simp [intOf]; omega⟩
      | false =>
        as_aux_lemma =>
        have HK : Hid (Kept (fun _ => False) w wc) := by obtain ⟨g, us, pa, pi, hS, -, -⟩ := HH.out; exact hS.side.kept
        clear HH hz hr1 hr2 hao HC hL
        go_wp2_with fail
        refine (runs_w wc).mono ?_
        rintro e w2 ⟨rfl, hk⟩
        have HZ : Hid (Kept (fun _ => False) w w2) := HK.out.thru hk
        clear HK hk
        go_wp2_with fail
        go_ret
        exact ⟨rfl, HZ.out⟩
end Go.Proofs.Ytiklclmpealllaa
