
/- What the code's processes do when they are called; no conditions but lengths. -/
import Derived.Test.YtbhpkjedkccdpaaDoorPrT
import Derived.Test.YtbhpkjedkccdpaaDoorPrI
namespace Go.Proofs.YtbhpkjedkccdpaaDoor
open Go.RowKit
set_option maxRecDepth 100000
set_option linter.unusedSimpArgs false

theorem qbit_w (i : Int) (w : World) (h : 0 ≤ i) (h' : i < 16) : Calls Tryd.prog 59 #[.int .i64 i] w fun e w' => e = .returned (.int .i64 (pw i)) ∧ w' = w := by
  have hp := pw_wrap h h'
  go_enter Tryd.func59, Tryd.ntmps59
  go_wp2
  rw [hp]
  go_ret
  exact ⟨rfl, rfl⟩

theorem pone_w (i : Int) (w : World) : Calls Tryd.prog 60 #[.int .i64 i] w fun e w' => e = .returned (.int .i64 (wrap64 (i + 1))) ∧ w' = w := by
  go_enter Tryd.func60, Tryd.ntmps60
  go_wp2
  go_ret
  exact ⟨rfl, rfl⟩

theorem qobject_w (i : Int) (w : World) : Calls Tryd.prog 61 #[.int .i64 i] w fun e w' => e = .returned (.agg #[.int .i64 4, .int .i64 i]) ∧ Kept (fun _ => False) w w' := by
  go_enter Tryd.func61, Tryd.ntmps61
  go_wp2
  exact bodyPost_ret (results_cell_row Tryd.results61 _ _ w.heap.size _ _ _ _ rfl (alloc_at _ _) Tryd.underlying54 rfl wide_K.size) rfl ⟨rfl, (Kept.refl _ _).alloc _⟩

theorem qtable_w (w : World) : Calls Tryd.prog 58 #[] w fun e w' => e = .returned (.agg #[.int .i64 3, .int .i64 0]) ∧ Kept (fun _ => False) w w' := by
  go_enter Tryd.func58, Tryd.ntmps58
  go_wp2
  exact bodyPost_ret (results_cell_row Tryd.results58 _ _ w.heap.size _ _ _ _ rfl (alloc_at _ _) Tryd.underlying54 rfl wide_K.size) rfl ⟨rfl, (Kept.refl _ _).alloc _⟩

theorem index_n1 (x : V) (w : World) : (Instr.index 49 (av x) (.int .i64 1)).run Tryd.prog w = .ok (.int .i64 x.n1) w := by kernel_rfl
theorem index_n2 (x : V) (w : World) : (Instr.index 49 (av x) (.int .i64 2)).run Tryd.prog w = .ok (.int .i64 x.n2) w := by kernel_rfl
theorem index_dsc (x : V) {d : Int} (h : 0 ≤ d) (h' : d < 6) (w : World) : (Instr.index 49 (av x) (.int .i64 (8 + d))).run Tryd.prog w = .ok (.int .i64 (dsc x d)) w := by
  rcases below6 h h' with rfl | rfl | rfl | rfl | rfl | rfl <;> kernel_rfl

set_option maxHeartbeats 1000000 in
theorem state_w (q N p B : Nat) (f : StF) (g : VwF) (i : Int) (w : World) (h : ViewIn q N p g w) (hs : StoreIn p B f w) (hNB : N ≠ B) : Calls Tryd.prog 27 #[.pointer (some ⟨q, 0, none⟩), .int .i64 i] w
    fun e w' => e = .returned (.int .i64 (stA f g i)) ∧ ViewIn q N p (stT f g i) w' ∧ Kept (fun n => n = N) w w' := by
  have hpN : p ≠ N := h.map.off hs.cell
  have hsk : ∀ w', Kept (fun n => n = N) w w' → StoreIn p B f w' := fun w' hk => hs.kept hk hpN (fun e => hNB e.symm)
  by_cases hr : 0 ≤ i ∧ i < 8
  · have HV : Hid (isU f g i = hasB (vgetF f g (3, 0)).n0 i ∧ usT g i = vgetT g (3, 0)) := isU_in hr
    obtain ⟨r1, r2⟩ := hr
    go_enter Tryd.func27, Tryd.ntmps27
    go_wp2_with fail
    refine (qtable_w _).mono ?_
    rintro e w1 ⟨rfl, hk1⟩
    go_wp2_with fail
    refine (vget_w q N p B f g 3 0 w1 (h.still hk1) (hs.still hk1) hNB).mono ?_
    rintro e w2 ⟨rfl, hv2, hk2⟩
    have HZ : Hid (ViewIn q N p (usT g i) w2 ∧ Kept (fun n => n = N) w w2) := ⟨by rw [HV.out.2]; exact hv2, (hk1.mono (fun _ _ e => e.elim)).trans hk2 (fun _ _ e => e)⟩
    have hf := field_arr (vgetF f g (3, 0)) w2
    have hx := index_n0 (vgetF f g (3, 0)) w2
    clear hv2 hk2 hk1 h hs
    generalize vgetF f g (3, 0) = x at *
    have hb := and_b x.n0 i r1 (by omega)
    cases hbit : hasB x.n0 i with
    | true =>
      rw [hbit, if_pos rfl] at hb
      have hz : (pw i == 0) = false := by have := pw_pos (i := i) r1 (by omega); simp; omega
      have HE : Hid (isU f g i = true) := by show _ = _; rw [HV.out.1]; exact hbit
      have HA : Hid (stA f g i = (prV f g i).n0 ∧ stT f g i = vgetT (usT g i) (4, i)) := by constructor; (unfold stA; rw [if_pos HE.out]); (unfold stT; rw [if_pos HE.out])
      clear hbit HV
      go_wp2_with fail
      refine (qbit_w i _ r1 (by omega)).mono ?_
      rintro e w3 ⟨rfl, hw3⟩
      subst hw3
      go_wp2_with fail
      clear hf hx hb hz
      refine (qobject_w i _).mono ?_
      rintro e w4 ⟨rfl, hk4⟩
      have K4 : Kept (fun n => n = N) w w4 := HZ.out.2.trans hk4 (fun _ _ e => e.elim)
      go_wp2_with fail
      refine (vget_w q N p B f (usT g i) 4 i w4 (HZ.out.1.still hk4) (hsk _ K4) hNB).mono ?_
      rintro e w5 ⟨rfl, hv5, hk5⟩
      rw [show vgetF f (usT g i) (4, i) = prV f g i from get_usT _ _]
      have HZ2 : Hid (ViewIn q N p (stT f g i) w5 ∧ Kept (fun n => n = N) w w5) := ⟨by rw [HA.out.2]; exact hv5, K4.trans hk5 (fun _ _ e => e)⟩
      have HB : Hid (stA f g i = (prV f g i).n0) := HA.out.1
      have hf := field_arr (prV f g i) w5
      have hx := index_n0 (prV f g i) w5
      clear hv5 hk5 hk4 K4 HZ HA HE
      generalize prV f g i = y at *
      go_wp2_with fail
      go_ret
      exact ⟨by rw [HB.out]; rfl, HZ2.out⟩
    | false =>
      rw [hbit] at hb
      simp only [Bool.false_eq_true, if_false] at hb
      have HE : Hid (isU f g i = false) := by show _ = _; rw [HV.out.1]; exact hbit
      have HA : Hid (stA f g i = 0 ∧ stT f g i = usT g i) := by constructor; (unfold stA; rw [HE.out]; rfl); (unfold stT; rw [HE.out]; rfl)
      clear hbit HV
      go_wp2_with fail
      refine (qbit_w i _ r1 (by omega)).mono ?_
      rintro e w3 ⟨rfl, hw3⟩
      subst hw3
      go_wp2_with fail
      go_ret
      exact ⟨by rw [HA.out.1]; rfl, by rw [HA.out.2]; exact HZ.out.1, HZ.out.2⟩
  · have HV : isU f g i = false ∧ usT g i = g := isU_out hr
    have HA : Hid (stA f g i = 0 ∧ stT f g i = g) := by constructor; (unfold stA; rw [HV.1]; rfl); (unfold stT; rw [HV.1, HV.2]; rfl)
    have HZ : Hid (ViewIn q N p (stT f g i) w ∧ Kept (fun n => n = N) w w) := ⟨by rw [HA.out.2]; exact h, Kept.refl _ _⟩
    clear h hs HV hsk hpN
    by_cases r1 : 0 ≤ i
    · have r2 : ¬ i < 8 := by omega
      clear hr
      go_enter Tryd.func27, Tryd.ntmps27
      go_wp2
      go_ret
      exact ⟨by rw [HA.out.1]; rfl, HZ.out⟩
    · clear hr
      go_enter Tryd.func27, Tryd.ntmps27
      go_wp2
      go_ret
      exact ⟨by rw [HA.out.1]; rfl, HZ.out⟩
end Go.Proofs.YtbhpkjedkccdpaaDoor

namespace Go.Proofs.YtbhpkjedkccdpaaDoor
open Go.RowKit
set_option maxRecDepth 100000
set_option linter.unusedSimpArgs false

end Go.Proofs.YtbhpkjedkccdpaaDoor

namespace Go.Proofs.YtbhpkjedkccdpaaDoor
open Go.RowKit
set_option maxRecDepth 100000
set_option linter.unusedSimpArgs false

end Go.Proofs.YtbhpkjedkccdpaaDoor

namespace Go.Proofs.YtbhpkjedkccdpaaDoor
open Go.RowKit
set_option maxRecDepth 100000
set_option linter.unusedSimpArgs false

theorem setD_cells (x : V) {d : Int} (h : 0 ≤ d) (h' : d < 6) (a : Int) {w : World} {F : Nat} (hF : w.heap[F]? = some (.cells (vc x).toArray 51 (0, 0))) :
    ∃ z : Int, w.cell? ⟨F, (8 + d).toNat, none⟩ = some (.int .i64 z) ∧ w.frozen? ⟨F, (8 + d).toNat, none⟩ = false ∧
      (w.setCell ⟨F, (8 + d).toNat, none⟩ (.int .i64 a)).heap[F]? = some (.cells (vc (setD x d a)).toArray 51 (0, 0)) := by
  rcases below6 h h' with rfl | rfl | rfl | rfl | rfl | rfl
  · exact ⟨x.n8, cell_at hF rfl, free_at hF _, by rw [set_at hF]; rfl⟩
  · exact ⟨x.n9, cell_at hF rfl, free_at hF _, by rw [set_at hF]; rfl⟩
  · exact ⟨x.n10, cell_at hF rfl, free_at hF _, by rw [set_at hF]; rfl⟩
  · exact ⟨x.n11, cell_at hF rfl, free_at hF _, by rw [set_at hF]; rfl⟩
  · exact ⟨x.n12, cell_at hF rfl, free_at hF _, by rw [set_at hF]; rfl⟩
  · exact ⟨x.n13, cell_at hF rfl, free_at hF _, by rw [set_at hF]; rfl⟩

end Go.Proofs.YtbhpkjedkccdpaaDoor

namespace Go.Proofs.YtbhpkjedkccdpaaDoor
open Go.RowKit
set_option maxRecDepth 100000
set_option linter.unusedSimpArgs false

set_option maxHeartbeats 1000000 in
theorem nw_w (q N p B : Nat) (f : StF) (g : VwF) (par : Int) (w : World) (h : ViewIn q N p g w) (hs : StoreIn p B f w) (hNB : N ≠ B) : Calls Tryd.prog 26 #[.pointer (some ⟨q, 0, none⟩), .int .i64 par] w
    fun e w' => e = .returned (nwR (nwA f g)) ∧ ViewIn q N p (nwT f g par) w' ∧ Kept (fun n => n = N) w w' := by
  have hN : N < w.heap.size := h.map.lt
  have hq : q < w.heap.size := lt_at h.cell
  go_enter Tryd.func26, Tryd.ntmps26
  go_wp2_with fail
  refine (qtable_w w).mono ?_
  rintro e w1 ⟨rfl, hk1⟩
  go_wp2_with fail
  refine (vget_w q N p B f g 3 0 w1 (h.still hk1) (hs.still hk1) hNB).mono ?_
  rintro e w2 ⟨rfl, hv2, hk2⟩
  have k2 : Kept (fun n => n = N) w w2 := (hk1.mono (fun _ _ e => e.elim)).trans hk2 (fun _ _ e => e)
  have HA : Hid (nwA f g = free8 (vgetF f g (3, 0)).n0 ∧ nwT f g par = if nwA f g < 8 then vputT (vputT (vgetT g (3, 0)) (3, 0) (nwV (vgetF f g (3, 0)) (nwA f g))) (4, nwA f g) (prN (wrap64 (par + 1)) (nwV (vgetF f g (3, 0)) (nwA f g)).n1) else vgetT g (3, 0)) := ⟨rfl, rfl⟩
  generalize vgetF f g (3, 0) = x at *
  obtain ⟨F, hF⟩ : ∃ F : Nat, w2.heap.size = F := ⟨_, rfl⟩
  have lF : w.heap.size ≤ F := by have := k2.size; omega
  have hv3 : ViewIn q N p (vgetT g (3, 0)) (w2.alloc (.cells (vc x).toArray 51)) := hv2.still ((Kept.refl _ _).alloc _)
  have k3 : Kept (fun n => n = N) w (w2.alloc (.cells (vc x).toArray 51)) := k2.alloc _
  have hF3 : (w2.alloc (.cells (vc x).toArray 51)).heap[F]? = some (.cells (vc x).toArray 51 (0, 0)) := alloc_at' _ hF
  clear h hs hk1 hk2 hv2 k2
  go_wp2_with (first | (refine list_wnew rfl wide_V _ _ rfl F rfl (vc x) rfl _ rfl hF rfl (vc_one _) ?_))
  generalize w2.alloc (.cells (vc x).toArray 51) = w3 at *
  clear hF
  have H0 : Hid (Kept (fun _ => False) w3 w3) := Kept.refl _ _
  have HF : Hid (w3.heap[F]? = some (.cells (vc x).toArray 51 (0, 0))) := hF3
  have HV : Hid (ViewIn q N p (vgetT g (3, 0)) w3 ∧ Kept (fun n => n = N) w w3) := ⟨hv3, k3⟩
  clear hF3 hv3 k3
  go_loopw [7, 12] (fun _ v wr => ∃ i : Int, v = .int .i64 i ∧ 0 ≤ i ∧ i ≤ 8 ∧ Hid (∀ j, 0 ≤ j → j < i → hasB x.n0 j = true) ∧ Hid (Kept (fun _ => False) w3 wr)) (fun _ v _ => (8 - intOf v).toNat)
  case atStart => exact ⟨0, rfl, by omega, by omega, fun j h1 h2 => by omega, H0.out⟩
  case round =>
    obtain ⟨i, rfl, hi1, hi2, HB, HK⟩ := hrel
    clear H0
    by_cases hlt : i < 8
    · have hb := and_b x.n0 i (by omega) (by omega)
      have hF4 := HK.out.at HF.out (fun x => x)
      have c0 := cell_at hF4 (i := 0) (v := .int .i64 x.n0) rfl
      cases hbit : hasB x.n0 i with
      | true =>
        rw [hbit, if_pos rfl] at hb
        have hz : (pw i != 0) = true := by have := pw_pos (i := i) (by omega) (by omega); simp; omega
        have HB2 : Hid (∀ j, 0 ≤ j → j < i + 1 → hasB x.n0 j = true) := fun j h1 h2 => by
          by_cases e : j = i
          · rw [e]; exact hbit
          · exact HB.out j h1 (by omega)
        clear hbit
        go_wp2_with fail
        go_quiet (exact Calls.quiet_of_same (qbit_w i _ (by omega) (by omega)))
        have HK2 : Hid (Kept (fun _ => False) w3 (wr.drewN nq)) := HK.out.trans (kept_drewN _ _) (fun _ _ e => e)
        clear hF4 c0 HK HB
        go_wp2
        go_roundw
        case rel => exact ⟨i + 1, rfl, by omega, by omega, HB2.out, HK2⟩
        case measure => simp [intOf]; omega
      | false =>
        rw [hbit] at hb
        simp only [Bool.false_eq_true, if_false] at hb
        have HE : Hid (nwA f g = i) := by show _ = _; rw [HA.out.1]; exact free8_at hi1 hlt HB.out hbit
        clear hbit
        go_wp2_with fail
        go_quiet (exact Calls.quiet_of_same (qbit_w i _ (by omega) (by omega)))
        have HK2 : Hid (Kept (fun _ => False) w3 (wr.drewN nq)) := HK.out.trans (kept_drewN _ _) (fun _ _ e => e)
        clear hF4 c0 HK HB
        generalize wr.drewN nq = wd at *
        have hF4 := HK2.out.at HF.out (fun x => x)
        have c0 := cell_at hF4 (i := 0) (v := .int .i64 x.n0) rfl
        have f0 := free_at hF4 0
        go_wp2_with fail
        go_cut [6] from 22 to 29 (fun v wc => v = .pointer (some ⟨F, 0, none⟩) ∧ Hid (Kept (fun n => n = F) wd wc ∧ wc.heap[F]? = some (.cells (vc (withN x (orN x.n0 i))).toArray 51 (0, 0))))
        case first =>
          go_region_with (refine (qbit_w i _ (by omega) (by omega)).mono ?_; rintro e w4 ⟨rfl, hw4⟩; subst hw4)
          all_goals
            go_wp2
            go_meet
            case rel => exact And.intro rfl (And.intro (by refine Kept.drew (Kept.setCell (Kept.refl _ _) ?_ _); intro _; rfl) (by show (wd.setCell _ _).heap[F]? = _; rw [set_at hF4]; rfl))
        case rest =>
          obtain ⟨rfl, HC⟩ := hcut
          have hFx := HC.out.2
          clear hF4 c0 f0
          have c1 := cell_at hFx (i := 1) (v := .int .i64 x.n1) rfl
          have f1 := free_at hFx 1
          have hFy : (wc.setCell ⟨F, 1, none⟩ (.int .i64 (wrap64 (x.n1 + 1)))).heap[F]? = some (.cells (vc (nwV x i)).toArray 51 (0, 0)) := by rw [set_at hFx]; rfl
          have kF : Kept (fun n => n = F) wc (wc.setCell ⟨F, 1, none⟩ (.int .i64 (wrap64 (x.n1 + 1)))) := by refine Kept.setCell (Kept.refl _ _) ?_ _; intro _; rfl
          have hK : Kept (fun n => n = F) w3 (wc.setCell ⟨F, 1, none⟩ (.int .i64 (wrap64 (x.n1 + 1)))) := ((HK2.out.mono (fun _ _ e => e.elim)).trans HC.out.1 (fun _ _ e => e)).trans kF (fun _ _ e => e)
          have hvw : ViewIn q N p (vgetT g (3, 0)) (wc.setCell ⟨F, 1, none⟩ (.int .i64 (wrap64 (x.n1 + 1)))) := HV.out.1.kept hK (by omega) (by omega)
          have hKw : Kept (fun n => n = N) w (wc.setCell ⟨F, 1, none⟩ (.int .i64 (wrap64 (x.n1 + 1)))) := HV.out.2.trans hK (fun k h1 h2 => by omega)
          clear hFx HK2 HC hK HV HF kF
          obtain ⟨y, hy⟩ : ∃ y, nwV x i = y := ⟨_, rfl⟩
          rw [hy] at hFy
          have HY : Hid (nwT f g par = vputT (vputT (vgetT g (3, 0)) (3, 0) y) (4, i) (prN (wrap64 (par + 1)) y.n1)) := by
            show _ = _
            rw [HA.out.2, HE.out, if_pos hlt, hy]
          clear hy HA
          go_wp2_with fail
          generalize wc.setCell ⟨F, 1, none⟩ (.int .i64 (wrap64 (x.n1 + 1))) = w4 at *
          clear c1 f1
          have KS : ∀ w', Kept (fun n => n = N) w4 w' → True := fun _ _ => trivial
          have KV : ∀ w', Kept (fun n => n = N) w4 w' → w'.rangeAt F 0 (vc y) := fun w' hk' => range_kept (whole_range hFy) hk' (by omega)
          refine wp_region_held_drew (S := fun w' => Kept (fun n => n = N) w4 w') (by kernel_rfl) ((Kept.refl _ _).drew) (fun hHeld => ?_)
          refine h_take 0 (some 36) (Op.move (Operand.tmp 0)) 25 ?v1 rfl rfl (by kernel_rfl) (by kernel_rfl) (by kernel_rfl) (fun _ _ _ h => h) ?hy1 hHeld ?_
          case hy1 => (intro _ _ _ w hSw; have hcs := KS _ hSw; go_simp; try with_reducible rfl)
          simp only [Act.put, List.setIfInBounds_toArray, List.set_cons_zero, List.set_cons_succ]
          refine h_take 2 (some 38) (Op.load 51 (Operand.tmp 6)) 51 (vv y) rfl rfl (by kernel_rfl) (by kernel_rfl) (by kernel_rfl) (fun _ _ _ h => h) (fun _ _ _ w hSw => exec_load rfl (load_wide wide_V (KV w hSw) rfl)) hHeld ?_
          simp only [Act.put, List.setIfInBounds_toArray, List.set_cons_zero, List.set_cons_succ]
          refine h_step 1 (some 37) (Op.call { callee := Callee.value (Operand.func 58), args := #[], argTypes := #[] }) 54 rfl rfl (by kernel_rfl) (fun _ _ _ K hK => ?_)
          go_simp
          refine (qtable_w _).mono ?_
          rintro e w5 ⟨rfl, hk5⟩
          replace hk5 : Kept (fun _ => False) w4 w5 := (Kept.refl _ w4).drew.thru hk5
          go_wp2_with fail
          refine hK.out _ _ (hk5.mono (fun _ _ e => e.elim)) (fun hHeld => ?_)
          clear hK K
          try simp only [Act.put, List.setIfInBounds_toArray, List.set_cons_zero, List.set_cons_succ]
          refine h_step 3 (some 39) (Op.call { callee := Callee.value (Operand.func 25), args := #[Operand.tmp 36, Operand.tmp 37, Operand.tmp 38], argTypes := #[25, 54, 51] }) 0 rfl rfl (by kernel_rfl) (fun _ _ _ K hK => ?_)
          go_simp
          refine (vput_w q N p (vgetT g (3, 0)) 3 0 y w5 (hvw.still hk5)).mono ?_
          rintro e w6 ⟨rfl, hv6, hk6⟩
          replace hk6 : Kept (fun n => n = N) w4 w6 := (hk5.mono (fun _ _ e => e.elim)).trans hk6 (fun _ _ e => e)
          go_wp2_with fail
          refine hK.out _ _ (hk6) (fun hHeld => ?_)
          clear hK K
          try simp only [Act.put, List.setIfInBounds_toArray, List.set_cons_zero, List.set_cons_succ]
          refine wpAnyH_done (by kernel_rfl) ?_ _
          have hK6 : Kept (fun n => n = N) w w6 := hKw.trans hk6 (fun _ _ e => e)
          have hF6 := hk6.at hFy (by show ¬ F = N; omega)
          have lF6 := lt_at hF6
          clear hHeld KS KV hk5 hvw hKw hk6 hFy
          obtain ⟨G, hG⟩ : ∃ G : Nat, w6.heap.size = G := ⟨_, rfl⟩
          have lG : N < G := by have := hK6.size; omega
          have lq : q < G := by have := hK6.size; omega
          have lw : w.heap.size ≤ G := by have := hK6.size; omega
          obtain ⟨w7, h7⟩ : ∃ w7, w6.alloc (.cells (vc zeroV).toArray 51) = w7 := ⟨_, rfl⟩
          have b7 : w7.heap[G]? = some (.cells (vc zeroV).toArray 51 (0, 0)) := by subst h7; exact alloc_at' _ hG
          have k7 : Kept (fun _ => False) w6 w7 := by subst h7; exact (Kept.refl _ _).alloc _
          obtain ⟨r, hr⟩ : ∃ r, wrap64 (par + 1) = r := ⟨_, rfl⟩
          rw [hr] at HY
          have c0 : w7.cell? ⟨G, 0, none⟩ = some (.int .i64 0) := cell_at b7 rfl
          have f0 := free_at b7 0
          have b8 := set_at b7 0 (.int .i64 1)
          obtain ⟨w8, h8⟩ : ∃ w8, w7.setCell ⟨G, 0, none⟩ (.int .i64 1) = w8 := ⟨_, rfl⟩
          rw [h8] at b8
          have k8 : Kept (fun _ => False) w6 w8 := by subst h8; exact Kept.setCell k7 (fun e => by simp at e; omega) _
          have c1 : w8.cell? ⟨G, 1, none⟩ = some (.int .i64 0) := cell_at b8 rfl
          have f1 := free_at b8 1
          rw [zero_cells] at h7
          go_wp2_with fail
          refine (pone_w par _).mono ?_
          rintro e w9 ⟨rfl, hw9⟩
          subst hw9
          rw [hr]
          have b9 := set_at b8 1 (.int .i64 r)
          obtain ⟨wa, ha⟩ : ∃ wa, w9.setCell ⟨G, 1, none⟩ (.int .i64 r) = wa := ⟨_, rfl⟩
          rw [ha] at b9
          have k9 : Kept (fun _ => False) w6 wa := by subst ha; exact Kept.setCell k8 (fun e => by simp at e; omega) _
          have hFa := k9.at hF6 (fun e => e)
          have d1 : wa.cell? ⟨F, 1, none⟩ = some (.int .i64 y.n1) := cell_at hFa rfl
          have c2 : wa.cell? ⟨G, 2, none⟩ = some (.int .i64 0) := cell_at b9 rfl
          have f2 := free_at b9 2
          have bz : (wa.setCell ⟨G, 2, none⟩ (.int .i64 y.n1)).heap[G]? = some (.cells (vc (prN r y.n1)).toArray 51 (0, 0)) := by rw [set_at b9]; rfl
          have kz : Kept (fun _ => False) w6 (wa.setCell ⟨G, 2, none⟩ (.int .i64 y.n1)) := Kept.setCell k9 (fun e => by simp at e; omega) _
          clear c0 f0 b7 k7 h7 h8 b8 k8
          go_wp2_with fail
          generalize wa.setCell ⟨G, 2, none⟩ (.int .i64 y.n1) = wb at *
          clear c1 f1 c2 f2 d1 b9 k9 ha hG hFa hF6
          have hvb := hv6.still kz
          have hKb := hK6.trans kz (fun _ _ e => e.elim)
          clear hv6 hK6 kz
          have KS : ∀ w', Kept (fun n => n = N) wb w' → True := fun _ _ => trivial
          have KV : ∀ w', Kept (fun n => n = N) wb w' → w'.rangeAt G 0 (vc (prN r y.n1)) := fun w' hk' => range_kept (whole_range bz) hk' (by omega)
          refine wp_region_held_drew (S := fun w' => Kept (fun n => n = N) wb w') (by kernel_rfl) ((Kept.refl _ _).drew) (fun hHeld => ?_)
          refine h_take 0 (some 51) (Op.move (Operand.tmp 0)) 25 ?v2 rfl rfl (by kernel_rfl) (by kernel_rfl) (by kernel_rfl) (fun _ _ _ h => h) ?hy2 hHeld ?_
          case hy2 => (intro _ _ _ w hSw; have hcs := KS _ hSw; go_simp; try with_reducible rfl)
          simp only [Act.put, List.setIfInBounds_toArray, List.set_cons_zero, List.set_cons_succ]
          refine h_take 1 (some 52) (Op.move (Operand.tmp 7)) 3 ?v3 rfl rfl (by kernel_rfl) (by kernel_rfl) (by kernel_rfl) (fun _ _ _ h => h) ?hy3 hHeld ?_
          case hy3 => (intro _ _ _ w hSw; have hcs := KS _ hSw; go_simp; try with_reducible rfl)
          simp only [Act.put, List.setIfInBounds_toArray, List.set_cons_zero, List.set_cons_succ]
          refine h_take 3 (some 54) (Op.load 51 (Operand.tmp 8)) 51 (vv (prN r y.n1)) rfl rfl (by kernel_rfl) (by kernel_rfl) (by kernel_rfl) (fun _ _ _ h => h) (fun _ _ _ w hSw => exec_load rfl (load_wide wide_V (KV w hSw) rfl)) hHeld ?_
          simp only [Act.put, List.setIfInBounds_toArray, List.set_cons_zero, List.set_cons_succ]
          refine h_step 2 (some 53) (Op.call { callee := Callee.value (Operand.func 61), args := #[Operand.tmp 52], argTypes := #[3] }) 54 rfl rfl (by kernel_rfl) (fun _ _ _ K hK => ?_)
          go_simp
          refine (qobject_w i _).mono ?_
          rintro e wc1 ⟨rfl, hkc⟩
          replace hkc : Kept (fun _ => False) wb wc1 := (Kept.refl _ wb).drew.thru hkc
          go_wp2_with fail
          refine hK.out _ _ (hkc.mono (fun _ _ e => e.elim)) (fun hHeld => ?_)
          clear hK K
          try simp only [Act.put, List.setIfInBounds_toArray, List.set_cons_zero, List.set_cons_succ]
          refine h_step 4 (some 55) (Op.call { callee := Callee.value (Operand.func 25), args := #[Operand.tmp 51, Operand.tmp 53, Operand.tmp 54], argTypes := #[25, 54, 51] }) 0 rfl rfl (by kernel_rfl) (fun _ _ _ K hK => ?_)
          go_simp
          refine (vput_w q N p _ 4 i (prN r y.n1) wc1 (hvb.still hkc)).mono ?_
          rintro e wz ⟨rfl, hvz, hkz⟩
          replace hkz : Kept (fun n => n = N) wb wz := (hkc.mono (fun _ _ e => e.elim)).trans hkz (fun _ _ e => e)
          go_wp2_with fail
          refine hK.out _ _ (hkz) (fun hHeld => ?_)
          clear hK K
          try simp only [Act.put, List.setIfInBounds_toArray, List.set_cons_zero, List.set_cons_succ]
          refine wpAnyH_done (by kernel_rfl) ?_ _
          have hKz : Kept (fun n => n = N) w wz := hKb.trans hkz (fun _ _ e => e)
          have HZ : Hid (ViewIn q N p (nwT f g par) wz) := by show ViewIn _ _ _ _ _; rw [HY.out]; exact hvz
          have HR : Hid (nwR (nwA f g) = .tuple #[.int .i64 i, .bool true]) := by
            show _ = _
            rw [HE.out]; unfold nwR; rw [if_pos hlt]; simp [hlt]
          clear hHeld KS KV hkc hvb hKb hkz hvz bz HE
          go_wp2_with fail
          exact bodyPost_ret (v := .tuple #[.int .i64 i, .bool true]) (by simp [results, Tryd.results26, go_sem]) rfl ⟨by rw [HR.out], HZ.out, hKz⟩
    · obtain rfl : i = 8 := by omega
      have HE : Hid (nwA f g = 8) := by show _ = _; rw [HA.out.1]; exact free8_none HB.out
      have HR : Hid (nwR (nwA f g) = .tuple #[.int .i64 0, .bool false]) := by show _ = _; rw [HE.out]; rfl
      have HZ : Hid (ViewIn q N p (nwT f g par) wr) := by
        show ViewIn _ _ _ _ _
        rw [HA.out.2, HE.out]
        exact HV.out.1.still HK.out
      have hKz : Kept (fun n => n = N) w wr := HV.out.2.trans HK.out (fun _ _ e => e.elim)
      clear HA HE HV HK HB HF
      go_wp2_with fail
      exact bodyPost_ret (v := .tuple #[.int .i64 0, .bool false]) (by simp [results, Tryd.results26, go_sem]) rfl ⟨by rw [HR.out], HZ.out, hKz⟩

end Go.Proofs.YtbhpkjedkccdpaaDoor

namespace Go.Proofs.YtbhpkjedkccdpaaDoor
open Go.RowKit
set_option maxRecDepth 100000
set_option linter.unusedSimpArgs false

end Go.Proofs.YtbhpkjedkccdpaaDoor
